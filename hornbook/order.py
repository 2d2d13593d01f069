"""The standard order of terms."""

from hornbook.terms import is_symbol, is_variable


def node_key(node):
    """Return what nodes are ordered by, with variables ordered by their numbers."""
    if is_variable(node):
        return (0, node[1], "")
    if is_symbol(node):
        return (2, node[2], node[1])
    return (1, node, "")


def term_key(term):
    """Return what terms are ordered by, with variables ordered by their numbers."""
    return [node_key(node) for node in term]


def compare(left, right):
    """Return -1, 0 or 1 as the left term comes before, equals or comes after the right one.

    Return None if the order is undecided.
    """
    for one, other in zip(left, right):
        if one != other:
            if is_variable(one) and is_variable(other):
                return None
            return -1 if node_key(one) < node_key(other) else 1
    return 0


def sort_terms(items, *, unique=False):
    """Return the terms in ascending order, or None if the order of any two is undecided."""
    ordered = sorted(items, key=term_key)
    kept = ordered[:1]
    # The terms with the same nodes before some place stand side by side, and among
    # them those with a variable there: if the order of any two terms is undecided,
    # that of two neighbors is.
    for before, term in zip(ordered, ordered[1:]):
        order = compare(before, term)
        if order is None:
            return None
        if order != 0 or not unique:
            kept.append(term)
    return kept
