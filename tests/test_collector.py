"""Points 81 to 83, what they say of cells, and hornbook/collector.py."""

import unittest

from helper import f, random_term, renumbered, seeded, v
from hornbook.cells import Heap
from hornbook.collector import reachable, slide

SYMBOL = ("f", "f", 1)


def reached_by_words(cells, roots):
    """Point 81 as a fixpoint."""
    found = {root[1] for root in roots if isinstance(root, tuple) and root[0] in ("ref", "str")}
    while True:
        more = set(found)
        for at in found:
            cell = cells[at]
            if isinstance(cell, tuple) and cell[0] in ("ref", "str"):
                more.add(cell[1])
            elif isinstance(cell, tuple):
                more |= set(range(at + 1, at + cell[2] + 1))
        if more == found:
            return sorted(found)
        found = more


def term_of(cells, cell):
    """The term of a cell, with the index of each unbound variable as its number."""
    if not isinstance(cell, tuple) or cell[0] == "f":
        return (cell,)
    if cell[0] == "ref":
        return v(cell[1]) if cells[cell[1]] == cell else term_of(cells, cells[cell[1]])
    symbol = cells[cell[1]]
    return f(symbol[1], *[term_of(cells, part) for part in cells[cell[1] + 1:cell[1] + symbol[2] + 1]])


def random_cells(source):
    """Cells that refer to each other in all directions, and roots."""
    places, cells = [], []
    symbols = []
    while len(cells) < source.randrange(1, 40):
        arity = source.choice((0, 0, 0, 1, 1, 2, 3, 8))
        if arity:
            symbols.append(len(cells))
            cells.append(("f", source.choice("fg"), arity))
        for _ in range(max(1, arity)):
            places.append(len(cells))
            cells.append(None)

    def cell():
        kind = source.randrange(6)
        if kind == 0:
            return source.randrange(5)
        if kind == 1:
            return ("f", "a", 0)
        if kind < 4 or not symbols:
            return ("ref", source.choice(places))
        return ("str", source.choice(symbols))

    for at in places:
        cells[at] = ("ref", at) if source.random() < 0.2 else cell()
    return cells, [cell() for _ in range(source.randrange(5))]


class Collecting(unittest.TestCase):

    def check(self, cells, roots):
        before = (list(cells), list(roots))
        found = reachable(cells, roots)
        self.assertEqual(found, reached_by_words(cells, roots))
        self.assertIs(type(found), list)
        kept, moved, places = slide(cells, roots)
        self.assertEqual((cells, roots), before)
        self.assertEqual(list(places), found)
        self.assertEqual(list(places.values()), list(range(len(found))))
        self.assertEqual((type(kept), type(moved), type(places)), (list, list, dict))

        def renamed(cell):
            if isinstance(cell, tuple) and cell[0] in ("ref", "str"):
                return (cell[0], places[cell[1]])
            return cell

        self.assertEqual(kept, [renamed(cells[at]) for at in found])
        self.assertEqual(moved, [renamed(root) for root in roots])
        # A second one changes nothing, and all cells that remain are reachable.
        self.assertEqual(slide(kept, moved), (kept, moved, {at: at for at in range(len(kept))}))
        self.assertEqual(reachable(kept, moved), list(range(len(kept))))
        return kept, moved, places

    def test_the_example(self):
        cells = [("f", "f", 1), ("ref", 3), ("ref", 2), 5]
        self.assertEqual(slide(cells, [("str", 0)]), ([("f", "f", 1), ("ref", 2), 5], [("str", 0)], {0: 0, 1: 1, 3: 2}))
        self.assertIs(type(slide(cells, [])), tuple)
        self.check(cells, [("str", 0)])

    def test_no_roots_and_no_cells(self):
        self.assertEqual(slide([], []), ([], [], {}))
        self.assertEqual(slide([("ref", 0), SYMBOL, 3], []), ([], [], {}))
        self.assertEqual(reachable([], []), [])
        self.assertEqual(reachable([SYMBOL, 3], []), [])
        self.assertEqual(slide([], [3, ("f", "a", 0)]), ([], [3, ("f", "a", 0)], {}))

    def test_kinds_of_roots(self):
        cells = [("ref", 0), SYMBOL, ("ref", 0), 7, ("ref", 3), ("str", 1)]
        for roots, found in (([3], []), ([("f", "a", 0)], []), ([("ref", 0)], [0]), ([("ref", 3)], [3]),
                             ([("ref", 4)], [3, 4]), ([("str", 1)], [0, 1, 2]), ([("ref", 5)], [0, 1, 2, 5]),
                             ([("ref", 2)], [0, 2]), ([("ref", 4), 9, ("ref", 0)], [0, 3, 4]),
                             ([("ref", 0), ("ref", 0)], [0])):
            self.assertEqual(reachable(cells, roots), found)
            self.check(cells, roots)

    def test_circles(self):
        self.check([("ref", 1), ("ref", 2), ("ref", 0), 4], [("ref", 1)])
        self.check([SYMBOL, ("str", 0), 3], [("str", 0)])
        self.check([3, SYMBOL, ("str", 3), SYMBOL, ("str", 1), 4], [("ref", 4)])

    def test_symbols_of_each_arity(self):
        for arity in range(1, 9):
            cells = [1, 2, ("f", "g", arity), *range(arity), 5, ("str", 2)]
            self.assertEqual(reachable(cells, [("str", 2)]), list(range(2, arity + 3)))
            self.assertEqual(reachable(cells, [("ref", arity + 4)]), [*range(2, arity + 3), arity + 4])
            self.check(cells, [("str", 2)])
            self.check(cells, [("ref", 3)])

    def test_cells_within_the_arguments_of_a_symbol(self):
        cells = [("f", "g", 3), ("ref", 1), ("ref", 2), 3, ("ref", 2)]
        self.assertEqual(reachable(cells, [("ref", 4)]), [2, 4])
        self.assertEqual(slide(cells, [("ref", 4)]), ([("ref", 0), ("ref", 0)], [("ref", 1)], {2: 0, 4: 1}))

    def test_deep(self):
        cells = []
        for at in range(300):
            cells += [SYMBOL, ("str", 2 * at + 2)]
        self.check(cells + [SYMBOL, 3], [("str", 0)])
        self.check([("ref", at + 1) for at in range(600)] + [5], [("ref", 300)])
        cells = [("ref", at + 1) for at in range(20000)] + [5]
        self.assertEqual(len(slide(cells, [("ref", 5000)])[0]), 15001)

    def test_drawn(self):
        source = seeded(81)
        for _ in range(1000):
            self.check(*random_cells(source))

    def test_no_term_changes(self):
        source = seeded(83)
        for _ in range(300):
            heap, places = Heap(), {}
            roots = [heap.store(random_term(source, source.randrange(1, 9), ["a", "b"]), places) for _ in range(6)]
            for _ in range(3):
                heap.unify(source.choice(roots), source.choice(roots))
            given = source.sample(roots, 4)
            kept, moved, _ = slide(heap.cells(), given)
            before = [heap.load(cell) for cell in given]
            after = [term_of(kept, cell) for cell in moved]
            self.assertEqual(renumbered(before), renumbered(after))
            numbers = [[node[1] for term in terms for node in term if isinstance(node, tuple) and node[0] == "v"]
                       for terms in (before, after)]
            self.assertEqual(*[[sorted(set(row)).index(number) for number in row] for row in numbers])

    def test_results_are_apart(self):
        cells, roots = [("ref", 0)], [("ref", 0)]
        kept, moved, places = slide(cells, roots)
        kept.append(1)
        moved.append(1)
        places[9] = 9
        reachable(cells, roots).append(3)
        self.assertEqual(slide(cells, roots), ([("ref", 0)], [("ref", 0)], {0: 0}))


if __name__ == "__main__":
    unittest.main()
