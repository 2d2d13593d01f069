"""Lists of terms that share their ends with one another."""

from hornbook.terms import next_number
from hornbook.unify import apply


class Linked:
    """An entry in front of another such list, which is None if it is empty.

    An entry is a mark of any kind with a tuple of terms. A list does not change.
    `free` is greater than the variables of all terms of the list, and `most` is the size
    of the largest one, so that what a substitution cannot change need not be looked at.
    """

    def __init__(self, mark, terms, rest):
        self.mark = mark
        self.terms = terms
        self.rest = rest
        self.free = max(next_number(terms), beyond(rest))
        self.most = max([len(term) for term in terms], default=0)
        self.most = max(self.most, most_nodes(rest))


def beyond(entries):
    """Return the least number that is greater than those of all variables of a list."""
    return 0 if entries is None else entries.free


def most_nodes(entries):
    """Return the number of nodes of the largest term of a list."""
    return 0 if entries is None else entries.most


def listed(entries):
    """Return the entries of a list as a list."""
    found = []
    while entries is not None:
        found.append(entries)
        entries = entries.rest
    return found


def instantiated(entries, substitution):
    """Return a list with a substitution applied to all of its terms."""
    if len(substitution) == 0:
        return entries
    least = min(list(substitution))
    front = []
    while beyond(entries) > least:
        front.append(entries)
        entries = entries.rest
    for entry in reversed(front):
        terms = tuple([apply(substitution, term) for term in entry.terms])
        entries = Linked(entry.mark, terms, entries)
    return entries
