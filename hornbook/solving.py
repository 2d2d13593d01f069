"""The solutions of a problem."""

from hornbook.constraints import SUM_KINDS, check_problem, fulfils, is_hopeless, narrow_rows, users_of
from hornbook.domains import values


def holds(constraint, chosen):
    """Tell whether the chosen values satisfy a constraint."""
    if constraint[0] in SUM_KINDS:
        kind, pairs, bound = constraint
        return fulfils(kind, sum([factor * chosen[variable] for factor, variable in pairs]), bound)
    if constraint[0] == "times":
        _, x, y, z = constraint
        return chosen[z] == chosen[x] * chosen[y]
    found = [chosen[variable] for variable in constraint[1]]
    return len(set(found)) == len(found)


def satisfies(domains, constraints, chosen):
    """Tell whether values are a solution of a problem."""
    check_problem(domains, constraints)
    if len(chosen) != len(domains):
        return False
    if not all([value in values(one) for value, one in zip(chosen, domains)]):
        return False
    return all([holds(constraint, chosen) for constraint in constraints])


def undecided(rows):
    """Return the first variable with more than one value, or None if there is none."""
    for variable, row in enumerate(rows):
        if len(row) > 1:
            return variable
    return None


def solutions(domains, constraints, *, most=None):
    """Return the solutions of a problem, or the first ones of them, in lexicographic order."""
    check_problem(domains, constraints)
    users = users_of(constraints, len(domains))
    found = []
    # The domains that may have solutions, the first ones last, each with the constraints
    # that were not looked at since a value was chosen.
    waiting = [([values(one) for one in domains], list(range(len(constraints))))]
    if any([one == () for one in domains]) or any([is_hopeless(one) for one in constraints]):
        return found
    while len(waiting) > 0 and (most is None or len(found) < most):
        rows, changed = waiting.pop()
        rows = narrow_rows(rows, constraints, users, changed)
        if rows is None:
            continue
        variable = undecided(rows)
        if variable is None:
            found.append(tuple([row[0] for row in rows]))
            continue
        for value in reversed(rows[variable]):
            waiting.append(([*rows[:variable], [value], *rows[variable + 1:]], users[variable]))
    return found
