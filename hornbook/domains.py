"""Domains: sets of small integers, as tuples of intervals."""

from hornbook.errors import BadProblem
from hornbook.terms import is_integer

LOWEST = -50
HIGHEST = 50


def is_value(value):
    """Tell whether a value may be in a domain."""
    return is_integer(value) and LOWEST <= value <= HIGHEST


def domain(values):
    """Return the domain of a list of integers in any order."""
    if not all([is_value(value) for value in values]):
        raise BadProblem("a domain has integers from -50 to 50")
    intervals = []
    for value in sorted(values):
        if len(intervals) > 0 and value <= intervals[-1][1] + 1:
            intervals[-1] = (intervals[-1][0], value)
        else:
            intervals.append((value, value))
    return tuple(intervals)


def values(given):
    """Return the ascending list of the values of a domain."""
    return [value for low, high in given for value in range(low, high + 1)]


def meet(first, second):
    """Return the domain of the common values of two domains."""
    common = {value: True for value in values(second)}
    return domain([value for value in values(first) if value in common])


def without(given, value):
    """Return a domain without a value."""
    return domain([other for other in values(given) if other != value])


def is_interval(value):
    """Tell whether a value has the form of one interval of a domain."""
    if not isinstance(value, tuple) or len(value) != 2:
        return False
    low, high = value
    return is_value(low) and is_value(high) and low <= high


def is_domain(value):
    """Tell whether a value is a domain."""
    if not isinstance(value, tuple) or not all([is_interval(pair) for pair in value]):
        return False
    return all([before[1] + 1 < behind[0] for before, behind in zip(value, value[1:])])
