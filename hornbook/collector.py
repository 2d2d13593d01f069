"""Collecting the cells that are not needed any more."""

from hornbook.terms import arity_of


def is_link(cell):
    """Tell whether a cell has the index of another one."""
    return isinstance(cell, tuple) and cell[0] != "f"


def marks(cells, roots):
    """Return a list that tells of each cell whether it is reachable."""
    marked = [False] * len(cells)
    waiting = [root[1] for root in roots if is_link(root)]
    while len(waiting) > 0:
        at = waiting.pop()
        if marked[at]:
            continue
        marked[at] = True
        cell = cells[at]
        if is_link(cell):
            waiting.append(cell[1])
        elif arity_of(cell) > 0:
            waiting.extend(list(range(at + 1, at + cell[2] + 1)))
    return marked


def reachable(cells, roots):
    """Return the ascending list of the indexes of the reachable cells."""
    return [at for at, is_marked in enumerate(marks(cells, roots)) if is_marked]


def moved(cell, places):
    """Return a cell with the new index in place of the old one."""
    return (cell[0], places[cell[1]]) if is_link(cell) else cell


def slide(cells, roots):
    """Return the reachable cells and the roots with their new indexes, and a dict from the old to the new ones."""
    places = {old: new for new, old in enumerate(reachable(cells, roots))}
    kept = [moved(cells[at], places) for at in places]
    return kept, [moved(root, places) for root in roots], places
