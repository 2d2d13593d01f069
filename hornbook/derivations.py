"""Derivations: proofs that an instance follows from the clauses of a definite program."""

from hornbook.definite import check_goal, check_size, definite_clauses, renamed
from hornbook.errors import NotAccepted
from hornbook.linked import Linked, beyond, instantiated, listed, most_nodes
from hornbook.terms import is_integer, is_term, renumber, renumber_together
from hornbook.unify import MOST_NODES, matches, unify_within

MOST_DEPTH = 60


class Path:
    """The steps of a leftmost resolution, one behind the other.

    `done` has the instances of the goals that were resolved, the last one first, each
    with the index of the clause and the number of its goals: backwards, the order is that
    of a derivation with each instance before its parts. `waiting` has the goals that are
    left, each with the depth at which its derivation stands.
    """

    def __init__(self, done, waiting):
        self.done = done
        self.waiting = waiting
        self.first = max(beyond(done), beyond(waiting))

    def size(self):
        """Return the number of nodes of the largest term."""
        return max(most_nodes(self.done), most_nodes(self.waiting))

    def resolved(self, clause, most):
        """Return the unifier of the first goal and a head, and the goals of the clause.

        Return None if there is no unifier.
        """
        head, goals = renamed(clause, self.first)
        unifier = unify_within(self.waiting.terms[0], head, most)
        return None if unifier is None else (unifier, goals)

    def behind(self, index, unifier, goals):
        """Return the path behind the step that replaces the first goal by these goals."""
        depth = self.waiting.mark
        done = Linked((index, len(goals)), self.waiting.terms, self.done)
        waiting = self.waiting.rest
        for goal in reversed(goals):
            waiting = Linked(depth + 1, (goal,), waiting)
        return Path(instantiated(done, unifier), instantiated(waiting, unifier))

    def is_too_deep(self):
        """Tell whether the derivation of the first goal would stand too deep."""
        return self.waiting is not None and self.waiting.mark > MOST_DEPTH

    def derivation(self):
        """Return the derivation of a path without waiting goals."""
        steps = listed(self.done)
        instances = renumber_together([step.terms[0] for step in reversed(steps)])
        # The derivations whose place is not reached yet, the leftmost one last.
        made = []
        for step in steps:
            index, count = step.mark
            made.append((instances.pop(), index, tuple([made.pop() for _ in range(count)])))
        return made[0]


def first_path(query):
    """Return the path before the first step."""
    return Path(None, Linked(1, (query,), None))


def derive(program, query, steps):
    """Return the derivations that leftmost resolution finds, and whether there are no others."""
    clauses = definite_clauses(program)
    check_goal(query)
    found = []
    complete = True
    # The paths that are not tried with all clauses yet, each with the next clause.
    open_paths = [(first_path(query), 0)]
    while len(open_paths) > 0:
        path, index = open_paths.pop()
        if index == len(clauses):
            continue
        open_paths.append((path, index + 1))
        step = path.resolved(clauses[index], MOST_NODES)
        if step is None:
            continue
        if steps <= 0:
            return found, False
        steps -= 1
        longer = path.behind(index, *step)
        check_size(longer.size(), MOST_NODES)
        if longer.waiting is None:
            found.append(longer.derivation())
        elif longer.is_too_deep():
            complete = False
        else:
            open_paths.append((longer, 0))
    return found, complete


def is_triple(value):
    """Tell whether a value begins as a derivation does: a term, an index and a tuple."""
    if not isinstance(value, tuple) or len(value) != 3:
        return False
    instance, index, below = value
    return is_term(instance) and is_integer(index) and index >= 0 and isinstance(below, tuple)


def is_step(clauses, value):
    """Tell whether a value is right as a derivation, apart from the parts of its parts."""
    if not is_triple(value) or value[1] >= len(clauses):
        return False
    instance, index, below = value
    head, goals = clauses[index]
    if len(goals) != len(below) or not all([is_triple(part) for part in below]):
        return False
    general = tuple([node for term in [head, *goals] for node in term])
    special = tuple([node for term in [instance, *[part[0] for part in below]] for node in term])
    return matches(general, special) is not None


def is_accepted(clauses, value):
    """Tell whether a value is an accepted derivation for the pairs of a head and its goals."""
    waiting = [(value, 1)]
    while len(waiting) > 0:
        part, depth = waiting.pop()
        if depth > MOST_DEPTH or not is_step(clauses, part):
            return False
        waiting.extend([(below, depth + 1) for below in part[2]])
    return True


def accepts(program, derivation):
    """Tell whether a derivation is accepted for a program."""
    return is_accepted(definite_clauses(program), derivation)


def follows(program, derivation):
    """Return the renumbered instance of an accepted derivation."""
    if not accepts(program, derivation):
        raise NotAccepted("the derivation is not accepted")
    return renumber(derivation[0])
