"""Terms: tuples of nodes in prefix order.

All functions go along the nodes and never call themselves, since terms may be
nested as deep as their size allows.
"""

from hornbook.errors import BadTerm

MOST_NAME = 40
MOST_ARITY = 8
INTEGER_BOUND = 10 ** 40
# The percent sign stands in no string of this package, so it goes by its number.
PERCENT = 37
LIST_CELL = ("f", ".", 2)
EMPTY_LIST = ("f", "[]", 0)


def is_integer(value):
    """Tell whether a value is an int that is not a bool."""
    return isinstance(value, int) and not isinstance(value, bool)


def is_bounded(value):
    """Tell whether a value is an integer that may stand in a term."""
    return is_integer(value) and abs(value) < INTEGER_BOUND


def is_name(value):
    """Tell whether a value has the form of the name of a symbol."""
    if not isinstance(value, str) or not 1 <= len(value) <= MOST_NAME:
        return False
    return all([" " <= letter <= "~" and ord(letter) != PERCENT for letter in value])


def is_arity(value):
    """Tell whether a value is the arity of a symbol."""
    return is_integer(value) and 0 <= value <= MOST_ARITY


def is_variable(node):
    """Tell whether a node is a variable."""
    return isinstance(node, tuple) and node[0] == "v"


def is_symbol(node):
    """Tell whether a node is a symbol."""
    return isinstance(node, tuple) and node[0] == "f"


def is_atom(term):
    """Tell whether a term is an atom."""
    return len(term) == 1 and is_symbol(term[0])


def arity_of(node):
    """Return the number of terms that follow a node as its arguments."""
    return node[2] if is_symbol(node) else 0


def is_node(value):
    """Tell whether a value is a node."""
    if is_integer(value):
        return is_bounded(value)
    if not isinstance(value, tuple):
        return False
    if len(value) == 2:
        return value[0] == "v" and is_integer(value[1]) and value[1] >= 0
    return len(value) == 3 and value[0] == "f" and is_name(value[1]) and is_arity(value[2])


def end_of(nodes, start):
    """Return the index behind the term that begins at the index start."""
    missing = 1
    at = start
    while missing > 0:
        missing += arity_of(nodes[at]) - 1
        at += 1
    return at


def variable(number):
    """Return the term of a variable."""
    if not is_integer(number) or number < 0:
        raise BadTerm("the number of a variable is an integer of at least 0")
    return (("v", number),)


def integer(value):
    """Return the term of an integer."""
    if not is_bounded(value):
        raise BadTerm("an integer in a term has at most 40 digits")
    return (value,)


def atom(name):
    """Return the term of an atom."""
    if not is_name(name):
        raise BadTerm("a name has 1 to 40 characters from the space to the tilde")
    return (("f", name, 0),)


def compound(name, *parts):
    """Return the term of a symbol with 1 to 8 arguments."""
    if not is_name(name):
        raise BadTerm("a name has 1 to 40 characters from the space to the tilde")
    if not 1 <= len(parts) <= MOST_ARITY:
        raise BadTerm("a compound term has 1 to 8 arguments")
    nodes = [("f", name, len(parts))]
    for part in parts:
        if not is_term(part):
            raise BadTerm("an argument is not a term")
        nodes.extend(part)
    return tuple(nodes)


def is_term(value):
    """Tell whether a value is a term."""
    if not isinstance(value, tuple):
        return False
    missing = 1
    for node in value:
        if missing == 0 or not is_node(node):
            return False
        missing += arity_of(node) - 1
    return missing == 0


def parts(term):
    """Return the list of the arguments of a term."""
    found = []
    at = 1
    while at < len(term):
        end = end_of(term, at)
        found.append(term[at:end])
        at = end
    return found


def list_term(items, *, tail=None):
    """Return the term of a list with the given elements and the given tail."""
    nodes = []
    for item in items:
        nodes.append(LIST_CELL)
        nodes.extend(item)
    if tail is None:
        nodes.append(EMPTY_LIST)
    else:
        nodes.extend(tail)
    return tuple(nodes)


def list_items(term):
    """Return the elements of a list, or None if the term is not a list."""
    found = []
    at = 0
    while term[at] == LIST_CELL:
        end = end_of(term, at + 1)
        found.append(term[at + 1:end])
        at = end
    return found if term[at] == EMPTY_LIST else None


def variables(term):
    """Return the variable numbers of a term in the order of their first occurrence."""
    found = {}
    for node in term:
        if is_variable(node):
            found[node[1]] = True
    return list(found)


def renumber(term, first=0):
    """Return a term with its variables replaced by first, first + 1, and so on."""
    names = {}
    nodes = []
    for node in term:
        if is_variable(node):
            if node[1] not in names:
                names[node[1]] = ("v", first + len(names))
            nodes.append(names[node[1]])
        else:
            nodes.append(node)
    return tuple(nodes)


def renumber_together(terms, first=0):
    """Return the list of the terms, renumbered as if they were one term."""
    nodes = renumber([node for term in terms for node in term], first)
    found = []
    at = 0
    for term in terms:
        found.append(nodes[at:at + len(term)])
        at += len(term)
    return found


def next_number(terms):
    """Return the least number that is greater than those of all variables of the terms."""
    return max([node[1] + 1 for term in terms for node in term if is_variable(node)], default=0)


def are_variants(left, right):
    """Tell whether one term is the other with its variables renamed one to one."""
    return renumber(left) == renumber(right)
