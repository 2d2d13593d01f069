"""Narrowing the domains of a problem."""

from hornbook.constraints import allowed, check_problem, is_hopeless, narrow_rows, users_of, variables_of
from hornbook.domains import domain, values


def allows(domains, constraint, variable, value):
    """Tell whether a constraint allows a value of the domain of a variable."""
    check_problem(domains, [constraint])
    if variable not in variables_of(constraint):
        return True
    return value in allowed([values(one) for one in domains], constraint)[variable]


def stable(domains, constraints):
    """Tell whether all values of the domains are allowed by all constraints."""
    check_problem(domains, constraints)
    rows = [values(one) for one in domains]
    return all([
        row == rows[variable] for constraint in constraints
        for variable, row in allowed(rows, constraint).items()
    ])


def narrow(domains, constraints):
    """Return the narrowed domains, or None if the problem is refuted."""
    check_problem(domains, constraints)
    if any([one == () for one in domains]) or any([is_hopeless(one) for one in constraints]):
        return None
    rows = [values(one) for one in domains]
    rows = narrow_rows(rows, constraints, users_of(constraints, len(rows)), list(range(len(constraints))))
    return None if rows is None else [domain(row) for row in rows]
