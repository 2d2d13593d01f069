"""Different values from domains, one of each."""

from hornbook.domains import values


def handed_on(askers, variable, value):
    """Return the pairs of variables and values when a variable gets a value that is free.

    Each variable on the way to it gets the value that it asked for.
    """
    found = [(variable, value)]
    while askers[variable] is not None:
        variable, value = askers[variable]
        found.append((variable, value))
    return found


def exchange(start, choices, owners):
    """Find values for a variable without one and for those that give up theirs for it.

    Return the pairs of these variables and values, and None; or None, if there are no such
    values, and the variables of which no one has a choice that none of them has.
    """
    askers = {start: None}
    waiting = [start]
    while len(waiting) > 0:
        variable = waiting.pop()
        for value in choices[variable]:
            if value not in owners:
                return handed_on(askers, variable, value), None
            owner = owners[value]
            if owner not in askers:
                askers[owner] = (variable, value)
                waiting.append(owner)
    return None, sorted(list(askers))


def match_choices(choices):
    """Return different values, one of each list, and None; or None and why there are none."""
    owners = {}
    for start in range(len(choices)):
        changes, stuck = exchange(start, choices, owners)
        if changes is None:
            return None, stuck
        for variable, value in changes:
            owners[value] = variable
    chosen = {variable: value for value, variable in owners.items()}
    return [chosen[variable] for variable in range(len(choices))], None


def distinct_values(given):
    """Return different values, one of each domain, and None; or None and why there are none."""
    return match_choices([values(one) for one in given])
