"""What views still show of slots that a collection lets go.

Behind the goal `fail` code has instructions that are never executed, and so keep no slot
alive; but the goals for which they stand belong to a view. A slot of which only they make
use fades when it is let go: it becomes a term whose variables have numbers of at least 0
where they stand for cells of the heap, and numbers below 0 where they are not on it any more.
"""

from hornbook.cells import is_compound, is_reference
from hornbook.instructions import reads, successors
from hornbook.state import MOST_LOADED
from hornbook.terms import is_variable


def hidden_slots(code):
    """Return a dict of the slots that are read by instructions that are never executed."""
    is_reached = [False] * len(code)
    is_reached[0] = True
    found = {}
    # Code has no way back.
    for at, instruction in enumerate(code):
        if is_reached[at]:
            for label in successors(code, at):
                is_reached[label] = True
        else:
            for kind, number in reads(instruction):
                if kind == "y":
                    found[number] = True
    return found


class Fading:
    """A collection, as far as slots fade in it.

    `old_cells` are those before the collection, and `moves` has the new indexes of those that
    remain. `names` has the numbers of variables that are removed, below those given before.
    """

    def __init__(self, old_cells, moves, lowest):
        self.old_cells = old_cells
        self.moves = moves
        self.names = {}
        self.lowest = lowest

    def new_name(self):
        """Return the node of a variable that is not on the heap."""
        self.lowest -= 1
        return ("v", self.lowest)

    def name(self, index):
        """Return the node of a variable that is removed."""
        if index not in self.names:
            self.names[index] = self.new_name()
        return self.names[index]

    def part_at(self, index):
        """Return the cell that stands for the argument with an index, a reference if it remains."""
        return ("ref", index) if index in self.moves else self.old_cells[index]

    def nodes_of(self, cell):
        """Return the list of the nodes into which a cell fades, a variable if there are too many."""
        nodes = []
        waiting = [cell]
        while len(waiting) > 0:
            if len(nodes) + len(waiting) > MOST_LOADED:
                return [self.new_name()]
            cell = waiting.pop()
            if is_reference(cell):
                index = cell[1]
                if index in self.moves:
                    nodes.append(("v", self.moves[index]))
                elif index >= len(self.old_cells) or self.old_cells[index] == cell:
                    nodes.append(self.name(index))
                else:
                    waiting.append(self.old_cells[index])
            elif is_compound(cell):
                symbol = self.old_cells[cell[1]]
                nodes.append(symbol)
                waiting.extend([self.part_at(cell[1] + place) for place in range(symbol[2], 0, -1)])
            else:
                nodes.append(cell)
        return nodes

    def fade_again(self, term):
        """Return a faded term as it is after the collection."""
        nodes = []
        for node in term:
            if is_variable(node) and node[1] >= 0:
                nodes.extend(self.nodes_of(("ref", node[1])))
            else:
                nodes.append(node)
        return tuple(nodes)


def faded_value(heap, term):
    """Return the term that a faded slot shows."""
    nodes = []
    for node in term:
        if is_variable(node) and 0 <= node[1] < heap.size():
            nodes.extend(heap.load_within(("ref", node[1]), MOST_LOADED - len(nodes)))
        else:
            nodes.append(node)
    return tuple(nodes)
