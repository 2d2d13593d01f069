"""What views still show of slots that a collection lets go.

No path leads from a call to the instructions that stand for goals behind `fail`, so that they
keep no slot alive; but these goals belong to a view. A slot of which only they make use fades
when it is let go: it becomes a term whose variables have numbers of at least 0 where they
stand for cells of the heap, and numbers below 0 where they are not on it any more.
The heap cannot make a variable unbound again that is not on it any more. So a choice point
keeps the terms of faded slots that were other ones when it was added.
"""

from hornbook.cells import is_compound, is_reference
from hornbook.instructions import reads, successors
from hornbook.state import MOST_LOADED
from hornbook.terms import is_variable


def shown_slots(code, start):
    """Return a dict of the slots that are read from a label on, if each `fail` lets the execution pass."""
    is_reached = [False] * (len(code) + 1)
    is_reached[start] = True
    found = {}
    # Code has no way back.
    for at in range(start, len(code)):
        if is_reached[at]:
            for kind, number in reads(code[at]):
                if kind == "y":
                    found[number] = True
            labels = [at + 1] if code[at] == ("fail",) else successors(code, at)
            for label in labels:
                is_reached[label] = True
    return found


class Fading:
    """A collection, as far as slots fade in it.

    `old_cells` and `old_trail` are those before the collection, and `moves` has the new indexes
    of the cells that remain. `names` has the numbers of variables that are removed, below those
    given before. `undone` has the variables that count as unbound, although they are bound.
    """

    def __init__(self, old_cells, old_trail, moves, lowest):
        self.old_cells = old_cells
        self.old_trail = old_trail
        self.moves = moves
        self.names = {}
        self.lowest = lowest
        self.undone = {}

    def go_back(self, trail_length):
        """Let the variables of the trail from a place on count as unbound.

        Tell whether one of them is removed.
        """
        self.undone = {index: True for index in self.old_trail[trail_length:]}
        return any([index not in self.moves for index in self.undone])

    def new_name(self):
        """Return the node of a variable that is not on the heap."""
        self.lowest -= 1
        return ("v", self.lowest)

    def name(self, index):
        """Return the node of a variable that is removed."""
        if index not in self.names:
            self.names[index] = self.new_name()
        return self.names[index]

    def nodes_of(self, cell):
        """Return the list of the nodes into which a cell fades, a variable if there are too many."""
        nodes = []
        waiting = [cell]
        while len(waiting) > 0:
            if len(nodes) + len(waiting) > MOST_LOADED:
                return [self.new_name()]
            cell = waiting.pop()
            if is_reference(cell):
                index = cell[1]
                if index in self.moves:
                    nodes.append(("v", self.moves[index]))
                elif index in self.undone or self.old_cells[index] == cell:
                    nodes.append(self.name(index))
                else:
                    waiting.append(self.old_cells[index])
            elif is_compound(cell):
                symbol = self.old_cells[cell[1]]
                nodes.append(symbol)
                waiting.extend([("ref", cell[1] + place) for place in range(symbol[2], 0, -1)])
            else:
                nodes.append(cell)
        return nodes

    def fade(self, term):
        """Return the term that the term of a slot becomes in the collection, a variable if it is too large."""
        nodes = []
        for node in term:
            if is_variable(node) and node[1] >= 0:
                nodes.extend(self.nodes_of(("ref", node[1])))
            else:
                nodes.append(node)
            if len(nodes) > MOST_LOADED:
                return (self.new_name(),)
        return tuple(nodes)


def term_of_slot(cell, cells):
    """Return the term of a slot with a cell that does not fade before the next collection."""
    if is_compound(cell):
        symbol = cells[cell[1]]
        return (symbol, *[("v", cell[1] + place) for place in range(1, symbol[2] + 1)])
    return (("v", cell[1]) if is_reference(cell) else cell,)


def faded_value(heap, term):
    """Return the term that a faded slot shows."""
    nodes = []
    for node in term:
        if is_variable(node) and node[1] >= 0:
            nodes.extend(heap.load_within(("ref", node[1]), MOST_LOADED - len(nodes)))
        else:
            nodes.append(node)
    return tuple(nodes)
