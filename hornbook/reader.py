"""Reading terms from a text."""

from hornbook.errors import BadText
from hornbook.operators import MOST_PRIORITY, left_limit, right_limit
from hornbook.terms import EMPTY_LIST, LIST_CELL, MOST_ARITY
from hornbook.tokens import tokens

# What stands as an argument or an element binds closer than the comma.
ARGUMENT_PRIORITY = 999
MOST_CALLS_INSIDE = 60
MOST_ITEMS = 100
MOST_CLAUSE_NODES = 1000


class Reader:
    """The tokens of a text, and how far they were read."""

    def __init__(self, text):
        self.found = tokens(text)
        self.used = 0
        self.text_end = len(text)
        self.table = {}
        self.numbers = {}
        self.variable_count = 0

    def at_end(self):
        """Tell whether the tokens are used up."""
        return self.used >= len(self.found)

    def peek(self, ahead=0):
        """Return a token that was not used yet, or one of no kind behind the last one."""
        at = self.used + ahead
        return self.found[at] if at < len(self.found) else ("none", "", self.text_end, True)

    def place(self):
        """Return the index of the next token."""
        return self.peek()[2]

    def next_is(self, kind, value):
        """Tell whether the next token has this kind and value."""
        return self.peek()[:2] == (kind, value)

    def skip(self, kind, value):
        """Use the next token if it has this kind and value, and tell whether it has."""
        fits = self.next_is(kind, value)
        if fits:
            self.used += 1
        return fits

    def expect(self, kind, value):
        """Use the next token, which must have this kind and value."""
        if not self.skip(kind, value):
            raise BadText(self.place())

    def clause(self, table):
        """Read a clause under an operator table, and return its term."""
        self.table = table
        self.numbers = {}
        self.variable_count = 0
        start = self.place()
        nodes = self.term(MOST_PRIORITY, 1)
        self.expect("end", ".")
        if len(nodes) > MOST_CLAUSE_NODES:
            raise BadText(start)
        return tuple(nodes)

    def term(self, most, depth):
        """Read a term with a priority of at most `most`, as the call number `depth` from outside.

        All methods that read a part of a term return its nodes as a list.
        """
        if depth > MOST_CALLS_INSIDE:
            raise BadText(self.place())
        nodes, priority = self.part(most, depth)
        operator = self.infix(most, priority)
        while operator is not None:
            name = self.peek()[1]
            self.used += 1
            nodes = [("f", name, 2), *nodes, *self.term(right_limit(operator), depth + 1)]
            priority = operator[0]
            operator = self.infix(most, priority)
        return nodes

    def infix(self, most, priority):
        """Return the infix operator that continues a part of this priority, or None."""
        kind, value = self.peek()[:2]
        operator = self.table.get((value, "infix")) if kind == "name" else None
        if operator is None or operator[0] > most or priority > left_limit(operator):
            return None
        return operator

    def part(self, most, depth):
        """Read the first part of a term, and return its nodes and its priority."""
        kind, value, index, _ = self.peek()
        self.used += 1
        if kind == "int":
            return [value], 0
        if kind == "var":
            return [("v", self.number_of(value))], 0
        if kind == "punct":
            return self.bracketed(value, index, depth), 0
        if kind == "quoted" or (kind == "name" and value != ","):
            return self.named(kind, value, most, depth)
        raise BadText(index)

    def number_of(self, name):
        """Return the number of the variable that is written with this name."""
        if name == "_" or name not in self.numbers:
            self.numbers[name] = self.variable_count
            self.variable_count += 1
        return self.numbers[name]

    def bracketed(self, opening, index, depth):
        """Read what follows an opening punct, which stands at the given index."""
        if opening == "(":
            nodes = self.term(MOST_PRIORITY, depth + 1)
            self.expect("punct", ")")
            return nodes
        if opening == "[":
            return self.list_part(depth)
        if opening == "{":
            return self.braced(depth)
        raise BadText(index)

    def braced(self, depth):
        """Read what follows an opening brace."""
        if self.skip("punct", "}"):
            return [("f", "{}", 0)]
        nodes = [("f", "{}", 1), *self.term(MOST_PRIORITY, depth + 1)]
        self.expect("punct", "}")
        return nodes

    def list_part(self, depth):
        """Read what follows an opening bracket."""
        if self.skip("punct", "]"):
            return [EMPTY_LIST]
        nodes = []
        for item in self.separated(MOST_ITEMS, depth):
            nodes.append(LIST_CELL)
            nodes.extend(item)
        if self.skip("punct", "|"):
            nodes.extend(self.term(ARGUMENT_PRIORITY, depth + 1))
        else:
            nodes.append(EMPTY_LIST)
        self.expect("punct", "]")
        return nodes

    def separated(self, most, depth):
        """Read terms with commas between them, and return the list of their nodes."""
        items = [self.term(ARGUMENT_PRIORITY, depth + 1)]
        while self.skip("name", ","):
            if len(items) == most:
                raise BadText(self.place())
            items.append(self.term(ARGUMENT_PRIORITY, depth + 1))
        return items

    def named(self, kind, name, most, depth):
        """Read what begins with a name, and return its nodes and its priority."""
        if self.opens_arguments(0):
            return self.compound_part(name, depth), 0
        if kind == "name" and name == "-" and self.peek()[0] == "int" and not self.peek()[3]:
            self.used += 1
            return [-self.found[self.used - 1][1]], 0
        operator = self.table.get((name, "prefix")) if kind == "name" else None
        if operator is None or operator[0] > most or not self.begins_argument():
            return [("f", name, 0)], 0
        return [("f", name, 1), *self.term(right_limit(operator), depth + 1)], operator[0]

    def compound_part(self, name, depth):
        """Read the arguments of a compound term with this name."""
        self.expect("punct", "(")
        items = self.separated(MOST_ARITY, depth)
        self.expect("punct", ")")
        nodes = [("f", name, len(items))]
        for item in items:
            nodes.extend(item)
        return nodes

    def opens_arguments(self, ahead):
        """Tell whether a token is a parenthesis that directly follows what is before it."""
        kind, value, _, spaced = self.peek(ahead)
        return (kind, value, spaced) == ("punct", "(", False)

    def begins_argument(self):
        """Tell whether the next token can begin the argument of a prefix operator."""
        kind, value = self.peek()[:2]
        if kind == "punct":
            return value in "([{"
        if kind != "name":
            return kind in ("int", "var", "quoted")
        if value == ",":
            return False
        is_infix = (value, "infix") in self.table
        return not is_infix or (value, "prefix") in self.table or self.opens_arguments(1)


def read_term(text, table):
    """Return the term of a text that is one clause."""
    reader = Reader(text)
    term = reader.clause(table)
    if not reader.at_end():
        raise BadText(reader.place())
    return term


def read_clauses(text, table):
    """Return the list of the terms of all clauses of a text."""
    reader = Reader(text)
    terms = []
    while not reader.at_end():
        terms.append(reader.clause(table))
    return terms
