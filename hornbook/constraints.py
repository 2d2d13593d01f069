"""The constraints of a problem: their forms, and which values they allow.

In this file the domain of a variable is the ascending list of its values.
"""

from hornbook.domains import is_domain
from hornbook.errors import BadProblem
from hornbook.matching import match_choices
from hornbook.terms import is_integer

MOST_VARIABLES = 12
MOST_PAIRS = 6
MOST_FACTOR = 20
MOST_BOUND = 10000
SUM_KINDS = ("le", "eq", "ne")


def is_index(value, count):
    """Tell whether a value is the number of one of so many variables."""
    return is_integer(value) and 0 <= value < count


def are_indexes(given, count):
    """Tell whether all values are different numbers of so many variables."""
    return all([is_index(value, count) for value in given]) and len(set(given)) == len(given)


def is_factor(value):
    """Tell whether a value may be a factor of a sum."""
    return is_integer(value) and 1 <= abs(value) <= MOST_FACTOR


def is_bound(value):
    """Tell whether a value may be the bound of a sum."""
    return is_integer(value) and abs(value) <= MOST_BOUND


def are_sums(given, count):
    """Tell whether a value has the form of the pairs of a sum."""
    if not isinstance(given, tuple) or len(given) > MOST_PAIRS:
        return False
    if not all([isinstance(pair, tuple) and len(pair) == 2 and is_factor(pair[0]) for pair in given]):
        return False
    return are_indexes([pair[1] for pair in given], count)


def is_constraint(value, count):
    """Tell whether a value is a constraint of so many variables."""
    if not isinstance(value, tuple) or len(value) == 0:
        return False
    words = value[1:]
    if value[0] in SUM_KINDS:
        return len(words) == 2 and are_sums(words[0], count) and is_bound(words[1])
    if value[0] == "times":
        return len(words) == 3 and all([is_index(word, count) for word in words])
    if value[0] != "distinct" or len(words) != 1 or not isinstance(words[0], tuple):
        return False
    return 1 <= len(words[0]) <= MOST_VARIABLES and are_indexes(words[0], count)


def check_problem(domains, constraints):
    """Raise BadProblem if domains or constraints do not have the right form."""
    if len(domains) > MOST_VARIABLES:
        raise BadProblem("a problem has at most 12 domains")
    if not all([is_domain(one) for one in domains]):
        raise BadProblem("a domain has a wrong form")
    if not all([is_constraint(one, len(domains)) for one in constraints]):
        raise BadProblem("a constraint has a wrong form")


def variables_of(constraint):
    """Return the variables of a constraint, each once."""
    if constraint[0] in SUM_KINDS:
        return [variable for _, variable in constraint[1]]
    given = constraint[1:] if constraint[0] == "times" else constraint[1]
    return list({variable: True for variable in given})


def fulfils(kind, total, bound):
    """Tell whether a total fulfils a sum constraint of a kind."""
    if kind == "le":
        return total <= bound
    return (total == bound) == (kind == "eq")


def is_hopeless(constraint):
    """Tell whether a constraint is a sum without pairs that is not fulfilled."""
    return constraint[1] == () and not fulfils(constraint[0], 0, constraint[2])


def ends(row, factor):
    """Return the least and the greatest product of a factor and a value."""
    return sorted([factor * row[0], factor * row[-1]])


def allowed_by_bounds(rows, constraint):
    """Return for each variable of "le" or "eq" the values that are allowed."""
    kind, pairs, bound = constraint
    products = {variable: ends(rows[variable], factor) for factor, variable in pairs}
    least = sum([low for low, _ in products.values()])
    greatest = sum([high for _, high in products.values()])
    found = {}
    for factor, variable in pairs:
        low, high = products[variable]
        most = bound - (least - low)
        fewest = bound - (greatest - high)
        found[variable] = [
            value for value in rows[variable]
            if factor * value <= most and (kind == "le" or factor * value >= fewest)
        ]
    return found


def allowed_by_ne(rows, constraint):
    """Return for each variable of "ne" the values that are allowed."""
    _, pairs, bound = constraint
    found = {}
    for factor, variable in pairs:
        others = [pair for pair in pairs if pair[1] != variable]
        found[variable] = rows[variable]
        if all([len(rows[other]) == 1 for _, other in others]):
            total = sum([times * rows[other][0] for times, other in others])
            found[variable] = [value for value in rows[variable] if total + factor * value != bound]
    return found


def can_divide(value, others, products):
    """Tell whether a value times some integer between the ends of others lies between those of products."""
    low, high = products[0], products[-1]
    if value == 0:
        return low <= 0 <= high
    if value < 0:
        low, high = high, low
    return max(others[0], -(-low // value)) <= min(others[-1], high // value)


def allowed_by_times(rows, constraint):
    """Return for each variable of "times" the values that are allowed, at each of its places."""
    _, x, y, z = constraint
    products = [left * right for left in (rows[x][0], rows[x][-1]) for right in (rows[y][0], rows[y][-1])]
    found = {variable: rows[variable] for variable in (x, y, z)}
    found[x] = [value for value in found[x] if can_divide(value, rows[y], rows[z])]
    found[y] = [value for value in found[y] if can_divide(value, rows[x], rows[z])]
    found[z] = [value for value in found[z] if min(products) <= value <= max(products)]
    return found


def givers(start, choices, chosen):
    """Return the positions that may give up their values, one to the other, if the start gives up its own."""
    found = {start: True}
    waiting = [start]
    while len(waiting) > 0:
        at = waiting.pop()
        for place, value in enumerate(chosen):
            if place not in found and value in choices[at]:
                found[place] = True
                waiting.append(place)
    return found


def allowed_by_distinct(rows, constraint):
    """Return for each variable of "distinct" the values that are allowed."""
    members = constraint[1]
    choices = [rows[variable] for variable in members]
    chosen, _ = match_choices(choices)
    if chosen is None:
        return {variable: [] for variable in members}
    owners = {value: at for at, value in enumerate(chosen)}
    # Who owns a value can have another one if someone gets a free value, or in a circle.
    free = [any([value not in owners for value in row]) for row in choices]
    reached = [givers(at, choices, chosen) for at in range(len(members))]
    escapes = [any([free[place] for place in places]) for places in reached]
    found = {}
    for at, variable in enumerate(members):
        found[variable] = [
            value for value in choices[at]
            if value not in owners or escapes[owners[value]] or at in reached[owners[value]]
        ]
    return found


def allowed(rows, constraint):
    """Return a dict with the list of the allowed values of each variable of a constraint."""
    members = variables_of(constraint)
    if any([len(rows[variable]) == 0 for variable in members]):
        return {variable: [] for variable in members}
    if constraint[0] == "ne":
        return allowed_by_ne(rows, constraint)
    if constraint[0] == "times":
        return allowed_by_times(rows, constraint)
    if constraint[0] == "distinct":
        return allowed_by_distinct(rows, constraint)
    return allowed_by_bounds(rows, constraint)


def users_of(constraints, count):
    """Return for each of so many variables the indexes of the constraints in which it occurs."""
    found = [[] for _ in range(count)]
    for at, constraint in enumerate(constraints):
        for variable in variables_of(constraint):
            found[variable].append(at)
    return found


def narrow_rows(rows, constraints, users, waiting):
    """Return the narrowed domains, or None if one of them is empty.

    Only the constraints whose indexes are waiting can remove values at the beginning.
    """
    rows = list(rows)
    waiting = {at: True for at in waiting}
    while len(waiting) > 0:
        at = min(list(waiting))
        del waiting[at]
        for variable, row in allowed(rows, constraints[at]).items():
            if len(row) == 0:
                return None
            if len(row) < len(rows[variable]):
                rows[variable] = row
                for user in users[variable]:
                    waiting[user] = True
    return rows
