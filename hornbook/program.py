"""Programs: lists of clauses with dynamic indicators."""

from hornbook.errors import BadClause
from hornbook.operators import initial_table, with_operator
from hornbook.reader import Reader
from hornbook.terms import end_of, is_arity, is_atom, is_integer, is_symbol, parts, renumber

MOST_CLAUSES = 200
MOST_CLAUSE_NODES = 200
TRUE = (("f", "true", 0),)
CLAUSE_SYMBOL = ("f", ":-", 2)
DIRECTIVE_SYMBOL = ("f", ":-", 1)
CALL_SYMBOL = ("f", "call", 1)
# Their arguments are goals themselves.
GOAL_SYMBOLS = (("f", ",", 2), ("f", ";", 2), ("f", "->", 2), ("f", "\\+", 1))
CONTROL = (
    ("true", 0), ("fail", 0), ("!", 0), (",", 2), (";", 2), ("->", 2), ("\\+", 1),
    ("call", 1), ("call", 2), ("call", 3), ("call", 4),
    ("call", 5), ("call", 6), ("call", 7), ("call", 8),
    ("catch", 3), ("findall", 3), ("throw", 1),
)
BUILT_IN = (
    ("=", 2), ("\\=", 2), ("==", 2), ("\\==", 2), ("@<", 2), ("compare", 3),
    ("var", 1), ("nonvar", 1), ("atom", 1), ("integer", 1), ("callable", 1),
    ("functor", 3), ("arg", 3), ("=..", 2), ("copy_term", 2), ("sort", 2),
    ("is", 2), ("=:=", 2), ("<", 2), ("=<", 2), ("write", 1), ("nl", 0),
    ("asserta", 1), ("assertz", 1), ("retract", 1), ("tabled", 1), ("solve", 2),
)


def is_control(name, arity):
    """Tell whether an indicator is that of a control construct."""
    return (name, arity) in CONTROL


def is_built_in(name, arity):
    """Tell whether an indicator is that of a built-in predicate."""
    return (name, arity) in BUILT_IN


def goal_form(term):
    """Return the goal form of a term."""
    nodes = []
    at = 0
    # Each round begins at the place of a goal.
    while at < len(term):
        end = at + 1
        if not is_symbol(term[at]):
            nodes.append(CALL_SYMBOL)
        elif term[at] not in GOAL_SYMBOLS:
            end = end_of(term, at)
        nodes.extend(term[at:end])
        at = end
    return tuple(nodes)


def split_clause(clause):
    """Return the pair of what stands as the head and as the body of a clause."""
    if clause[0] != CLAUSE_SYMBOL:
        return clause, TRUE
    end = end_of(clause, 1)
    return clause[1:end], clause[end:]


def head_and_body(clause):
    """Return the pair of the head and the body of a clause."""
    head, body = split_clause(clause)
    if not is_symbol(head[0]):
        raise BadClause("the head of a clause is a callable term")
    _, name, arity = head[0]
    if is_control(name, arity) or is_built_in(name, arity):
        raise BadClause(f"the predicate {name}/{arity} cannot have clauses")
    if len(clause) > MOST_CLAUSE_NODES:
        raise BadClause("a clause has at most 200 nodes")
    return head, body


def stored_form(clause):
    """Return the pair of the head and the body of a clause, renumbered together."""
    head_and_body(clause)
    return split_clause(renumber(clause))


def check_count(count):
    """Raise BadClause if a program has too many clauses."""
    if count > MOST_CLAUSES:
        raise BadClause("a program has at most 200 clauses")


class Program:
    """Clauses, as pairs of a head and a body, and dynamic indicators. It does not change."""

    def __init__(self, clauses, dynamic):
        check_count(len(clauses))
        self._pairs = [stored_form(clause) for clause in clauses]
        self._dynamic = {(name, arity): True for name, arity in dynamic}

    def _with_pairs(self, pairs):
        """Return a program with these clauses and the same dynamic indicators."""
        program = Program([], list(self._dynamic))
        program._pairs = pairs
        return program

    def clauses(self):
        """Return the pairs of the head and the body of all clauses, in order."""
        return list(self._pairs)

    def predicate(self, name, arity):
        """Return the pairs of the head and the body of the clauses of a predicate, in order."""
        symbol = ("f", name, arity)
        return [pair for pair in self._pairs if pair[0][0] == symbol]

    def with_clause(self, clause, *, first=False):
        """Return a program with one more clause, as the first or the last one."""
        check_count(len(self._pairs) + 1)
        pair = stored_form(clause)
        return self._with_pairs([pair, *self._pairs] if first else [*self._pairs, pair])

    def without(self, name, arity, position):
        """Return a program without the clause with this position in a predicate."""
        symbol = ("f", name, arity)
        places = [at for at, pair in enumerate(self._pairs) if pair[0][0] == symbol]
        place = places[position]
        return self._with_pairs(self._pairs[:place] + self._pairs[place + 1:])

    def is_dynamic(self, name, arity):
        """Tell whether an indicator is dynamic."""
        return (name, arity) in self._dynamic


def obey(directive, table, dynamic):
    """Return the operator table and the dynamic indicators behind a directive."""
    words = parts(directive)
    symbol = directive[0]
    if symbol == ("f", "op", 3):
        if is_integer(words[0][0]) and is_atom(words[1]) and is_atom(words[2]):
            return with_operator(table, words[0][0], words[1][0][1], words[2][0][1]), dynamic
    if symbol == ("f", "dynamic", 2):
        if is_atom(words[0]) and is_arity(words[1][0]):
            return table, [*dynamic, (words[0][0][1], words[1][0])]
    raise BadClause("there is no such directive")


def read_program(text):
    """Return the program of a text."""
    reader = Reader(text)
    table = initial_table()
    clauses = []
    dynamic = []
    while not reader.at_end():
        term = reader.clause(table)
        if term[0] == DIRECTIVE_SYMBOL:
            table, dynamic = obey(term[1:], table, dynamic)
        else:
            head_and_body(term)
            clauses.append(term)
            check_count(len(clauses))
    return Program(clauses, dynamic)
