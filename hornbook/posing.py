"""Problems that are given by constraint terms."""

from hornbook.constraints import MOST_VARIABLES, is_constraint
from hornbook.domains import is_value
from hornbook.faults import kind_error
from hornbook.terms import is_integer, is_variable, list_items, parts, variables

IN = ("f", "in", 2)
INTERVAL = ("f", "..", 2)
DISTINCT = ("f", "distinct", 1)
PLUS = ("f", "+", 2)
MINUS = ("f", "-", 2)
PRODUCT = ("f", "*", 2)
EQUAL = ("f", "=:=", 2)
LESS = ("f", "<", 2)
SUM_SYMBOLS = {
    ("f", "=:=", 2): "eq", ("f", "\\=", 2): "ne", ("f", "<", 2): "le", ("f", "=<", 2): "le",
}


def is_interval(term):
    """Tell whether a term has the form V in L .. H."""
    if term[0] != IN or not is_variable(term[1]) or term[2] != INTERVAL:
        return False
    return is_integer(term[3]) and is_integer(term[4])


def is_product(term):
    """Tell whether a term has the form Z =:= X * Y."""
    if term[0] != EQUAL or not is_variable(term[1]) or term[2] != PRODUCT:
        return False
    return is_variable(term[3]) and is_variable(term[4])


def distinct_variables(term):
    """Return the variables of a term of the form distinct(L), or None if it has another form."""
    given = list_items(term[1:]) if term[0] == DISTINCT else None
    if given is None or not all([is_variable(item[0]) for item in given]):
        return None
    numbers = [item[0][1] for item in given]
    return numbers if len(set(numbers)) == len(numbers) else None


def add_up(expression, sign):
    """Return the factors of the variables of an expression and its constant, times a sign.

    Return None if it is no expression.
    """
    factors = {}
    constant = 0
    # What the parts of the expression that come next are multiplied by, the next one last.
    waiting = [sign]
    at = 0
    while len(waiting) > 0:
        node = expression[at]
        factor = waiting.pop()
        if is_integer(node):
            constant += factor * node
        elif is_variable(node):
            factors[node[1]] = factors.get(node[1], 0) + factor
        elif node == PLUS:
            waiting.extend([factor, factor])
        elif node == MINUS:
            waiting.extend([-factor, factor])
        elif node == PRODUCT and is_integer(expression[at + 1]):
            at += 1
            waiting.append(factor * expression[at])
        else:
            return None
        at += 1
    return factors, constant


def sum_of(term):
    """Return the kind, the factors and the bound of a comparison of two expressions.

    Return None if the term has another form.
    """
    if term[0] not in SUM_SYMBOLS:
        return None
    sides = parts(term)
    left, right = add_up(sides[0], 1), add_up(sides[1], -1)
    if left is None or right is None:
        return None
    factors = dict(left[0])
    for number, factor in right[0].items():
        factors[number] = factors.get(number, 0) + factor
    bound = -left[1] - right[1]
    return SUM_SYMBOLS[term[0]], factors, bound - 1 if term[0] == LESS else bound


def has_form(term):
    """Tell whether a term is a constraint term."""
    return is_interval(term) or is_product(term) or distinct_variables(term) is not None or sum_of(term) is not None


def constraint_of(term, places):
    """Return the constraint of a term that is no interval, with the variables by their places."""
    if is_product(term):
        return ("times", places[term[3][1]], places[term[4][1]], places[term[1][1]])
    numbers = distinct_variables(term)
    if numbers is not None:
        return ("distinct", tuple([places[number] for number in numbers]))
    kind, factors, bound = sum_of(term)
    pairs = sorted([(places[number], factor) for number, factor in factors.items() if factor != 0])
    return (kind, tuple([(factor, place) for place, factor in pairs]), bound)


def is_right(term, counts, places):
    """Tell whether the variables and the numbers of a constraint term are right.

    `counts` tells how many intervals each variable has, and `places` has the first
    variables, as many as a problem may have.
    """
    if not all([counts.get(number, 0) == 1 and number in places for number in variables(term)]):
        return False
    if is_interval(term):
        return is_value(term[3]) and is_value(term[4])
    return is_constraint(constraint_of(term, places), len(places))


def first_fault(constraints, counts, places):
    """Return the first constraint term that is not right, or None if all are."""
    for term in constraints:
        if not has_form(term):
            return term
    for term in constraints:
        if not is_right(term, counts, places):
            return term
    return None


def pose(constraints):
    """Return the variables, the domains and the constraints of constraint terms, or an error."""
    intervals = [term for term in constraints if is_interval(term)]
    counts = {}
    for term in intervals:
        counts[term[1][1]] = counts.get(term[1][1], 0) + 1
    numbers = list(counts)
    places = {number: place for place, number in enumerate(numbers[:MOST_VARIABLES])}
    fault = first_fault(constraints, counts, places)
    if fault is not None:
        return kind_error("constraint", fault)
    domains = [((term[3], term[4]),) if term[3] <= term[4] else () for term in intervals]
    others = [constraint_of(term, places) for term in constraints if not is_interval(term)]
    return numbers, domains, others
