"""Search trees: certificates of all answers of a query."""

from hornbook.definite import check_goal, definite_clauses, resolved
from hornbook.derivations import MOST_DEPTH
from hornbook.errors import NotAccepted, TooLarge
from hornbook.terms import is_integer, renumber

MOST_TREE = 400


class Growing:
    """A pair of a tree, for a query and a list of goals, whose children are not all found yet."""

    def __init__(self, query, goals, pick):
        self.query = query
        self.goals = goals
        self.pick = pick
        self.children = []

    def pair(self):
        """Return the pair of the tree."""
        return (self.pick, tuple(self.children))


def picked(picks, number, count):
    """Return the index that is picked at the pair with this number among so many goals."""
    return picks[number % len(picks)] % count if len(picks) > 0 else 0


def grown(clauses, query, picks):
    """Return the tree of a query, or None if it gets too large or too deep."""
    path = [Growing(query, [query], 0)]
    count = 1
    while True:
        last = path[-1]
        if len(last.children) == len(clauses):
            path.pop()
            if len(path) == 0:
                return last.pair()
            path[-1].children.append((last.pair(),))
            continue
        step = resolved(last.query, last.goals, last.pick, clauses[len(last.children)])
        if step is None:
            last.children.append(())
        elif len(step[1]) == 0:
            last.children.append((None,))
        elif count == MOST_TREE or len(path) == MOST_DEPTH:
            return None
        else:
            path.append(Growing(step[0], step[1], picked(picks, count, len(step[1]))))
            count += 1


def search_tree(program, query, picks):
    """Return the tree of a query in which goals are picked by a list, or None if there is none."""
    clauses = definite_clauses(program)
    check_goal(query)
    try:
        return grown(clauses, query, picks)
    except TooLarge:
        return None


def is_pair(value, goal_count, clause_count):
    """Tell whether a value has the form of a pair of a tree for so many goals and clauses."""
    if not isinstance(value, tuple) or len(value) != 2:
        return False
    pick, children = value
    if not is_integer(pick) or not 0 <= pick < goal_count:
        return False
    return isinstance(children, tuple) and len(children) == clause_count


def is_child(value, step):
    """Tell whether a value is as long as it must be in place of what a resolving leads to."""
    return isinstance(value, tuple) and len(value) == (0 if step is None else 1)


def instances_of(clauses, query, tree):
    """Return the instances of the query at the empty lists, or None if the tree is not accepted."""
    found = []
    count = 0
    # Each with a query, its goals and the depth at which it stands, the leftmost one last.
    waiting = [(tree, query, [query], 1)]
    while len(waiting) > 0:
        value, instance, goals, depth = waiting.pop()
        if len(goals) == 0 and value is None:
            found.append(renumber(instance))
            continue
        count += 1
        if count > MOST_TREE or depth > MOST_DEPTH or not is_pair(value, len(goals), len(clauses)):
            return None
        pick, children = value
        below = []
        for clause, child in zip(clauses, children):
            step = resolved(instance, goals, pick, clause)
            if not is_child(child, step):
                return None
            if step is not None:
                below.append((child[0], step[0], step[1], depth + 1))
        waiting.extend(below[::-1])
    return found


def accepted_instances(program, query, tree):
    """Return what instances_of returns, and None also if a resolving raises TooLarge."""
    clauses = definite_clauses(program)
    check_goal(query)
    try:
        return instances_of(clauses, query, tree)
    except TooLarge:
        return None


def accepts_tree(program, query, tree):
    """Tell whether a tree is accepted for a query."""
    return accepted_instances(program, query, tree) is not None


def tree_answers(program, query, tree):
    """Return the list of the answers of an accepted tree."""
    found = accepted_instances(program, query, tree)
    if found is None:
        raise NotAccepted("the tree is not accepted")
    return found
