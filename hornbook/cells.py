"""The heap: terms as cells that refer to one another."""

from hornbook.errors import TooLarge
from hornbook.terms import arity_of, is_variable


def is_reference(cell):
    """Tell whether a cell is a reference or an unbound variable."""
    return isinstance(cell, tuple) and cell[0] == "ref"


def is_compound(cell):
    """Tell whether a cell stands for a compound term."""
    return isinstance(cell, tuple) and cell[0] == "str"


class Heap:
    """A list of cells, and the trail: the indexes of the variables to be made unbound again.

    `_newest` is the index of the last variable that was made by itself, and `_quiet` is True
    as long as no variable was bound behind it: until then no cell before it refers to it.
    """

    def __init__(self):
        self._cells = []
        self._trail = []
        self._protected = 0
        self._newest = 0
        self._quiet = False

    def size(self):
        """Return the number of cells."""
        return len(self._cells)

    def trail_size(self):
        """Return the number of entries of the trail."""
        return len(self._trail)

    def cells(self):
        """Return the list of all cells."""
        return list(self._cells)

    def trail(self):
        """Return the list of the entries of the trail."""
        return list(self._trail)

    def renew(self, cells, trail):
        """Put other cells and another trail in place of all that there are."""
        self._cells = list(cells)
        self._trail = list(trail)
        self._quiet = False

    def cut(self, size, trail_size):
        """Make the variables of the trail from a size on unbound, and cut both lists."""
        for index in self._trail[trail_size:]:
            self._cells[index] = ("ref", index)
        del self._trail[trail_size:]
        del self._cells[size:]
        self._quiet = False

    def protect(self, size):
        """Let the variables with an index less than size be added to the trail when they are bound."""
        self._protected = size

    def new_variable(self):
        """Add an unbound variable that is no argument of a compound term, and return it."""
        self._newest = len(self._cells)
        self._quiet = True
        return self.push_variable()

    def push_variable(self):
        """Add an unbound variable, and return it."""
        cell = ("ref", len(self._cells))
        self._cells.append(cell)
        return cell

    def push_cell(self, cell):
        """Add a cell, and return its index."""
        self._cells.append(cell)
        return len(self._cells) - 1

    def cell_at(self, index):
        """Return the cell with an index."""
        return self._cells[index]

    def follow(self, cell):
        """Return a cell dereferenced."""
        while isinstance(cell, tuple) and cell[0] == "ref":
            held = self._cells[cell[1]]
            if held == cell:
                return cell
            cell = held
        return cell

    def node_of(self, cell):
        """Return the first node of the term of a cell, or None for a variable."""
        cell = self.follow(cell)
        if is_compound(cell):
            return self._cells[cell[1]]
        return None if is_reference(cell) else cell

    def store(self, term, places):
        """Store a term and return its cell; `places` has the cells of variables, new ones are added."""
        cells = self._cells
        root = None
        # The indexes of the arguments that are not stored yet, the next one last.
        waiting = []
        for node in term:
            place = waiting.pop() if len(waiting) > 0 else None
            cell = node
            if arity_of(node) > 0:
                cell = ("str", len(cells))
                cells.append(node)
                waiting.extend(list(range(len(cells) + node[2] - 1, len(cells) - 1, -1)))
                cells.extend([None] * node[2])
            elif is_variable(node) and node[1] in places:
                cell = places[node[1]]
            elif is_variable(node):
                cell = self.new_variable() if place is None else ("ref", place)
                places[node[1]] = cell
            if place is None:
                root = cell
            else:
                cells[place] = cell
        return root

    def load(self, cell):
        """Return the term of a cell. Each unbound variable has its index as its number."""
        return self.load_within(cell, None)

    def load_within(self, cell, most):
        """Return the term of a cell as load does, but raise TooLarge if it has more nodes than most."""
        cells = self._cells
        nodes = []
        waiting = [cell]
        while len(waiting) > 0:
            cell = waiting.pop()
            if is_reference(cell):
                held = cells[cell[1]]
                if held != cell:
                    waiting.append(held)
                    continue
                nodes.append(("v", cell[1]))
            elif is_compound(cell):
                symbol = cells[cell[1]]
                nodes.append(symbol)
                waiting.extend(cells[cell[1] + symbol[2]:cell[1]:-1])
            else:
                nodes.append(cell)
            # Each cell that waits is a node at least.
            if most is not None and len(nodes) + len(waiting) > most:
                raise TooLarge("a term has too many nodes")
        return tuple(nodes)

    def occurs(self, index, cell):
        """Tell whether an unbound variable occurs in a term."""
        cells = self._cells
        # Before this index no cell needs to be looked at.
        floor = index if self._quiet and index == self._newest else 0
        seen = {}
        waiting = [cell]
        while len(waiting) > 0:
            cell = waiting.pop()
            if not isinstance(cell, tuple) or cell[0] == "f" or cell[1] < floor:
                continue
            if cell[0] == "ref":
                if cell[1] == index:
                    return True
                if cells[cell[1]] != cell:
                    waiting.append(cells[cell[1]])
            elif cell[1] not in seen:
                seen[cell[1]] = True
                waiting.extend(cells[cell[1] + 1:cell[1] + cells[cell[1]][2] + 1])
        return False

    def bind(self, index, cell):
        """Bind an unbound variable to a cell."""
        self._cells[index] = cell
        self._quiet = False
        if index < self._protected:
            self._trail.append(index)

    def unify(self, left, right):
        """Unify two cells, and tell whether they have a unifier."""
        waiting = [(left, right)]
        # Terms may share parts. What was unified once remains equal.
        seen = {}
        while len(waiting) > 0:
            one, other = waiting.pop()
            one, other = self.follow(one), self.follow(other)
            if one == other:
                continue
            if is_reference(one) or is_reference(other):
                if not self._bind_one(one, other):
                    return False
            elif not is_compound(one) or not is_compound(other):
                return False
            elif (one[1], other[1]) not in seen:
                seen[(one[1], other[1])] = True
                symbol = self._cells[one[1]]
                if symbol != self._cells[other[1]]:
                    return False
                waiting.extend([
                    (self._cells[one[1] + place], self._cells[other[1] + place])
                    for place in range(symbol[2], 0, -1)
                ])
        return True

    def _bind_one(self, one, other):
        """Bind one of two different cells, of which one at least is unbound, to the other one."""
        if not is_reference(one) or (is_reference(other) and other[1] > one[1]):
            one, other = other, one
        if is_compound(other) and self.occurs(one[1], other):
            return False
        self.bind(one[1], other)
        return True
