"""Substitutions and unification."""

from hornbook.errors import TooLarge
from hornbook.terms import arity_of, end_of, is_variable

MOST_NODES = 200


class Side:
    """One of the two terms that are unified.

    `rest` has the nodes that were not looked at yet, the next one last. `total` and
    `counts` tell the number of nodes and of occurrences of each variable in the whole
    term with everything found so far applied, so that it need not be built.
    """

    def __init__(self, term):
        self.rest = list(term[::-1])
        self.total = len(term)
        self.counts = {}
        self.add_variables(term, 1)

    def add_variables(self, term, times):
        """Count the variables of a term that occurs so many times."""
        for node in term:
            if is_variable(node):
                self.counts[node[1]] = self.counts.get(node[1], 0) + times

    def take(self, found):
        """Take the next node, with everything found so far applied."""
        node = self.rest.pop()
        while is_variable(node) and node[1] in found:
            self.rest.extend(found[node[1]][::-1])
            node = self.rest.pop()
        return node

    def take_rest(self, node, found):
        """Take the rest of the term that begins with a node that was taken, and return the term."""
        nodes = [node]
        missing = arity_of(node)
        while missing > 0:
            node = self.take(found)
            nodes.append(node)
            missing += arity_of(node) - 1
        return tuple(nodes)

    def bind(self, number, value):
        """Replace a variable by a value in the whole term."""
        times = self.counts.pop(number, 0)
        if times > 0:
            self.total += times * (len(value) - 1)
            self.add_variables(value, times)


def apply(substitution, term):
    """Return a term with the variables that are keys replaced by their values, once."""
    nodes = []
    for node in term:
        if is_variable(node) and node[1] in substitution:
            nodes.extend(substitution[node[1]])
        else:
            nodes.append(node)
    return tuple(nodes)


def compose(first, second):
    """Return the substitution that has the effect of applying first and then second."""
    both = {number: apply(second, value) for number, value in first.items()}
    for number, value in second.items():
        if number not in both:
            both[number] = value
    return {number: value for number, value in both.items() if value != (("v", number),)}


def settle(found):
    """Apply each binding to the values of the bindings that were found before it.

    A value has no variable that was bound before it was found, so that going backwards
    each value is replaced by its final form at once.
    """
    settled = {}
    for number in reversed(list(found)):
        settled[number] = apply(settled, found[number])
    return {number: settled[number] for number in found}


def unify(left, right):
    """Return a most general unifier of two terms, or None if there is none."""
    return unify_within(left, right, MOST_NODES)


def unify_within(left, right, most):
    """Return what unify returns, with another number in place of MOST_NODES."""
    bound = max(most, len(left), len(right))
    one, other = Side(left), Side(right)
    found = {}
    while len(one.rest) > 0:
        node, mate = one.take(found), other.take(found)
        if node == mate:
            continue
        if is_variable(node) and not (is_variable(mate) and mate[1] > node[1]):
            number, value = node[1], other.take_rest(mate, found)
        elif is_variable(mate):
            number, value = mate[1], one.take_rest(node, found)
        else:
            return None
        if ("v", number) in value:
            return None
        found[number] = value
        one.bind(number, value)
        other.bind(number, value)
        # Each value is a part of one of the two terms, and so never the largest.
        if max(one.total, other.total) > bound:
            raise TooLarge("a unifier makes a term too large")
    return settle(found)


def matches(general, special):
    """Return the substitution of the variables of general that makes it equal to special, or None."""
    found = {}
    at = 0
    for node in general:
        if is_variable(node):
            end = end_of(special, at)
            if found.setdefault(node[1], special[at:end]) != special[at:end]:
                return None
            at = end
        elif node == special[at]:
            at += 1
        else:
            return None
    return found
