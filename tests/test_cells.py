"""Points 61, 62 and 64, what they say of the heap and the trail, and hornbook/cells.py."""

import unittest

from helper import a, chain, f, i, items, left_chain, random_term, read, right_chain, seeded, v
from hornbook.cells import Heap
from hornbook.terms import are_variants, is_term, renumber, variables
from hornbook.unify import apply, unify


def is_cell(cell):
    """Whether a value has the form of a cell."""
    if isinstance(cell, int):
        return True
    return isinstance(cell, tuple) and (
        len(cell) == 2 and cell[0] in ("ref", "str") and isinstance(cell[1], int)
        or len(cell) == 3 and is_term((("f", cell[1], 0),)) and cell[0] == "f")


class Cells(unittest.TestCase):

    def check_form(self, heap):
        """Whether all cells have the form of point 61."""
        cells = heap.cells()
        self.assertIs(type(cells), list)
        self.assertEqual(heap.size(), len(cells))
        inside = 0
        for at, cell in enumerate(cells):
            self.assertTrue(is_cell(cell), cell)
            if isinstance(cell, tuple) and cell[0] == "f" and cell[2] > 0:
                self.assertEqual(inside, 0)
                inside = cell[2]
                self.assertLessEqual(at + inside, len(cells) - 1)
                continue
            inside = max(0, inside - 1)
            if isinstance(cell, tuple) and cell[0] == "ref":
                self.assertLess(cell[1], len(cells))
                target = cells[cell[1]]
                self.assertFalse(isinstance(target, tuple) and target[0] == "f" and target[2] > 0)
            elif isinstance(cell, tuple) and cell[0] == "str":
                self.assertEqual(cells[cell[1]][0], "f")
                self.assertGreater(cells[cell[1]][2], 0)


class Storing(Cells):

    def stored(self, term, count):
        heap, places = Heap(), {}
        cell = heap.store(term, places)
        self.check_form(heap)
        self.assertEqual(heap.size(), count)
        self.assertTrue(are_variants(heap.load(cell), term))
        self.assertEqual(list(places), sorted(places, key=variables(term).index))
        self.assertEqual(set(places), set(variables(term)))
        for number, place in places.items():
            self.assertEqual(heap.load(place), v(place[1]))
        return cell, heap

    def test_each_kind(self):
        self.assertEqual(self.stored(i(7), 0)[0], 7)
        self.assertEqual(self.stored(i(-10 ** 39), 0)[0], -10 ** 39)
        self.assertEqual(self.stored(a("a"), 0)[0], ("f", "a", 0))
        self.assertEqual(self.stored(a("[]"), 0)[0], ("f", "[]", 0))
        self.assertEqual(self.stored(v(5), 1)[0], ("ref", 0))
        cell, heap = self.stored(f("f", i(1), a("b")), 3)
        self.assertEqual((cell, heap.cells()), (("str", 0), [("f", "f", 2), 1, ("f", "b", 0)]))
        cell, heap = self.stored(f("f", v(3)), 2)
        self.assertEqual((cell, heap.cells()), (("str", 0), [("f", "f", 1), ("ref", 1)]))

    def test_the_number_of_cells(self):
        # A symbol with arguments, and one cell for each argument.
        self.stored(f("f", v(3), v(3), v(4)), 4)
        self.stored(f("f", f("g", v(1)), v(1)), 5)
        self.stored(f("f", f("g", a("a")), f("g", a("a"))), 7)
        self.stored(items(i(1), v(0), a("b")), 9)
        self.stored(f("f", *[i(k) for k in range(8)]), 9)
        source = seeded(61)
        for _ in range(300):
            term = random_term(source, source.randrange(1, 30), ["a", "b"], arities=(1, 2, 3, 8))
            symbols = sum(isinstance(node, tuple) and node[0] == "f" and node[2] > 0 for node in term)
            self.stored(term, symbols + len(term) - 1 if symbols else len(variables(term)))

    def test_nested_deep(self):
        for term in (chain("s", 990, v(0)), chain("s", 990, i(3)), left_chain("t", 495, v(0)),
            right_chain("t", 495, v(0)),
                     items(*[v(k) for k in range(490)])):
            heap = Heap()
            cell = heap.store(term, {})
            self.check_form(heap)
            self.assertTrue(are_variants(heap.load(cell), term))
            other = heap.store(term, {})
            self.assertIs(heap.unify(cell, other), True)
            self.assertEqual(heap.load(cell), heap.load(other))

    def test_places_that_are_given(self):
        heap = Heap()
        inner = heap.store(f("g", a("b")), {})
        free = heap.store(v(0), {})
        places = {0: 5, 1: ("f", "a", 0), 2: inner, 3: free}
        cell = heap.store(f("f", v(0), v(1), v(2), v(3), v(4), v(3), v(4)), places)
        self.check_form(heap)
        self.assertEqual(set(places), {0, 1, 2, 3, 4})
        self.assertEqual((places[0], places[1], places[2], places[3]), (5, ("f", "a", 0), inner, free))
        new = places[4][1]
        self.assertEqual(heap.load(cell), f("f", i(5), a("a"), f("g", a("b")), v(free[1]), v(new), v(free[1]), v(new)))
        self.assertEqual(heap.size(), 3 + 8)
        for number in range(4):
            self.assertEqual(heap.store(v(number), places), places[number])
        self.assertEqual(heap.size(), 3 + 8)

    def test_places_are_used_again(self):
        heap, places = Heap(), {}
        one, other = heap.store(f("f", v(0)), places), heap.store(f("g", v(0), v(1)), places)
        number = places[0][1]
        self.assertEqual(heap.load(one), f("f", v(number)))
        self.assertEqual(heap.load(other), f("g", v(number), v(places[1][1])))
        self.assertIs(heap.unify(places[0], 3), True)
        self.assertEqual(heap.load(one), f("f", i(3)))
        # A variable that was bound is still the same variable.
        self.assertEqual(heap.load(heap.store(v(0), places)), i(3))

    def test_load_of_cells(self):
        heap = Heap()
        self.assertEqual(heap.load(12), i(12))
        self.assertEqual(heap.load(("f", "a", 0)), a("a"))
        cell = heap.store(v(0), {})
        self.assertEqual(heap.load(cell), v(cell[1]))

    def test_load_of_large_terms(self):
        """A term that shares its parts may have any number of nodes."""
        for arity, times in ((1, 3000), (2, 16), (3, 11), (8, 6)):
            heap = Heap()
            shape = f("f", *[v(0)] * arity)
            cell, expected = heap.store(a("a"), {}), a("a")
            for _ in range(times):
                cell = heap.store(shape, {0: cell})
                expected = (shape[0], *expected * arity)
            self.assertEqual(heap.load(cell), expected)
            self.assertEqual(heap.size(), (arity + 1) * times)
            self.check_form(heap)

    def test_load_around_100000_nodes(self):
        for count in (99998, 99999, 100000, 100001, 100002, 250000):
            heap = Heap()
            cell = 7
            for _ in range(count - 1):
                cell = heap.store(f("s", v(0)), {0: cell})
            self.assertEqual(heap.load(cell), (("f", "s", 1),) * (count - 1) + (7,))

    def test_load_of_large_terms_with_variables(self):
        heap = Heap()
        left, right = heap.store(v(0), {}), heap.store(v(0), {})
        cell = heap.store(f("g", v(0), v(1), v(0)), {0: left, 1: right})
        for _ in range(16):
            cell = heap.store(f("f", v(0), v(0)), {0: cell})
        inner = f("g", v(left[1]), v(right[1]), v(left[1]))
        for _ in range(16):
            inner = f("f", inner, inner)
        self.assertEqual(heap.load(cell), inner)
        # What is bound behind it shows in every place.
        self.assertIs(heap.unify(left, heap.store(f("h", v(0)), {0: right})), True)
        self.assertIs(heap.unify(right, -5), True)
        loaded = heap.load(cell)
        self.assertEqual(len(loaded), 2 ** 16 - 1 + 2 ** 16 * 6)
        self.assertEqual(loaded[16:22], f("g", f("h", i(-5)), i(-5), f("h", i(-5))))
        self.assertEqual(loaded.count(-5), 3 * 2 ** 16)

    def test_load_through_many_references(self):
        heap = Heap()
        cells = [heap.store(v(0), {}) for _ in range(120000)]
        for older, newer in zip(cells[-2::-1], cells[:0:-1]):
            self.assertIs(heap.unify(newer, older), True)
        self.assertEqual(heap.load(cells[-1]), v(0))
        whole = heap.store(f("f", v(0), v(1)), {0: cells[-1], 1: cells[-2]})
        self.assertEqual(heap.load(whole), f("f", v(0), v(0)))
        self.assertIs(heap.unify(cells[-1], 4), True)
        self.assertEqual(heap.load(whole), f("f", i(4), i(4)))

    def test_results_are_apart(self):
        heap = Heap()
        heap.store(f("f", v(0)), {})
        heap.cells().append(1)
        heap.cells()[0] = 3
        self.assertEqual(heap.cells(), [("f", "f", 1), ("ref", 1)])


class Unifying(Cells):

    def test_each_pair_of_kinds(self):
        for left, right, expected in (
                (i(1), i(1), True), (i(1), i(2), False), (i(1), a("a"), False), (a("a"), a("a"), True),
                (a("a"), a("b"), False), (i(1), f("f", i(1)), False), (a("f"), f("f", i(1)), False),
                (f("f", i(1)), f("f", i(1)), True), (f("f", i(1)), f("g", i(1)), False),
                (f("f", i(1)), f("f", i(1), i(1)), False), (f("f", i(1)), f("f", i(2)), False),
                (v(0), i(1), True), (v(0), a("a"), True), (v(0), f("f", v(1)), True), (v(0), v(1), True),
                (v(0), v(0), True), (v(0), f("f", v(0)), False), (f("f", v(0), v(0)), f("f", i(1), i(2)), False),
                (f("f", v(0), v(1)), f("f", v(1), i(2)), True), (f("f", v(0), v(1)), f("f", v(1), f("g", v(0))),
                False)):
            for one, other in ((left, right), (right, left)):
                heap, places = Heap(), {}
                one, other = heap.store(one, places), heap.store(other, places)
                self.assertIs(heap.unify(one, other), expected)
                self.check_form(heap)
                if expected:
                    self.assertEqual(heap.load(one), heap.load(other))

    def test_which_variable_is_bound(self):
        for order in ((0, 1), (1, 0)):
            heap = Heap()
            cells = [heap.store(v(0), {}), heap.store(v(0), {})]
            self.assertIs(heap.unify(cells[order[0]], cells[order[1]]), True)
            self.assertEqual(heap.cells(), [("ref", 0), ("ref", 0)])

    def test_chains_of_variables(self):
        heap = Heap()
        cells = [heap.store(v(0), {}) for _ in range(6)]
        for one, other in ((5, 3), (3, 4), (1, 2), (2, 5)):
            self.assertIs(heap.unify(cells[one], cells[other]), True)
            self.check_form(heap)
        self.assertEqual([heap.load(cell) for cell in cells], [v(0), v(1), v(1), v(1), v(1), v(1)])
        for at, cell in enumerate(heap.cells()):
            self.assertLessEqual(cell[1], at)
        self.assertIs(heap.unify(cells[4], 8), True)
        self.assertEqual([heap.load(cell) for cell in cells], [v(0), *[i(8)] * 5])
        self.assertIs(heap.unify(cells[4], cells[1]), True)
        self.assertIs(heap.unify(cells[4], 9), False)
        self.assertEqual(heap.cells()[0], ("ref", 0))

    def test_a_cell_is_stored_in_place_of_the_variable(self):
        heap = Heap()
        places = {}
        for number in range(3):
            heap.store(v(number), places)
        whole = heap.store(f("f", a("a")), {})
        for number, cell in ((0, 7), (1, ("f", "a", 0)), (2, whole)):
            self.assertIs(heap.unify(cell, places[number]), True)
        self.assertEqual(heap.cells(), [7, ("f", "a", 0), ("str", 3), ("f", "f", 1), ("f", "a", 0)])

    def test_a_variable_in_a_term(self):
        for text in ("f(X)", "f(a, g(X))", "f(g(h(X)), X)", "[a, b|X]"):
            heap, places = Heap(), {}
            whole = heap.store(read(text), places)
            before = heap.cells()
            self.assertIs(heap.unify(places[0], whole), False)
            self.assertIs(heap.unify(whole, places[0]), False)
            self.assertEqual(heap.cells(), before)
        # Also through variables that are bound.
        heap, places = Heap(), {}
        one, other = heap.store(v(0), places), heap.store(v(1), places)
        self.assertIs(heap.unify(one, heap.store(f("f", v(1)), places)), True)
        self.assertIs(heap.unify(other, heap.store(f("g", v(0)), places)), False)
        self.assertEqual(heap.load(other), v(1))

    def test_what_fails_in_the_middle(self):
        heap, places = Heap(), {}
        left = heap.store(f("f", v(0), v(1), i(1), v(2)), places)
        right = heap.store(f("f", i(3), a("a"), i(2), i(4)), {})
        self.assertIs(heap.unify(left, right), False)
        self.check_form(heap)
        # What was bound stays bound: each variable is as it was, or bound to what stands against it.
        for number, value in ((0, i(3)), (1, a("a")), (2, i(4))):
            self.assertIn(heap.load(places[number]), (value, v(places[number][1])))

    def test_on_failure_the_bindings_can_be_undone(self):
        heap, places = Heap(), {}
        left = heap.store(f("f", v(0), f("g", v(1), v(0)), i(1)), places)
        right = heap.store(f("f", v(2), f("g", i(7), i(8)), i(2)), places)
        before = heap.cells()
        heap.protect(heap.size())
        self.assertIs(heap.unify(left, right), False)
        heap.cut(len(before), 0)
        self.assertEqual(heap.cells(), before)
        self.assertEqual(heap.trail_size(), 0)

    def test_terms_that_share_parts(self):
        def doubled(heap, last):
            cell = last
            for _ in range(60):
                cell = heap.store(f("f", v(0), v(0)), {0: cell})
            return cell

        heap = Heap()
        one, other = heap.store(v(0), {}), heap.store(v(0), {})
        left, right = doubled(heap, one), doubled(heap, other)
        self.assertIs(heap.unify(left, right), True)
        self.assertEqual(heap.load(other), v(0))
        self.assertIs(heap.unify(one, right), False)
        self.assertIs(heap.unify(doubled(heap, 1), doubled(heap, 2)), False)
        whole = heap.store(v(0), {})
        self.assertIs(heap.unify(whole, left), True)
        small = heap.store(f("f", v(0), v(0)), {0: heap.store(f("g", v(0)), {})})
        self.assertEqual(heap.load(small)[:2], (("f", "f", 2), ("f", "g", 1)))

    def test_against_unify(self):
        source = seeded(62)
        succeeded = 0
        for _ in range(2000):
            left = random_term(source, source.randrange(1, 14), ["a", "b", "f"])
            right = random_term(source, source.randrange(1, 14), ["a", "b", "f"])
            if source.random() < 0.5:
                right = apply({k: random_term(source, 4, ["a", "b"]) for k in range(0, 4, 2)}, left)
            heap, places = Heap(), {}
            one, other = heap.store(left, places), heap.store(right, places)
            heap.protect(heap.size())
            before = heap.cells()
            unifier = unify(left, right)
            self.assertIs(heap.unify(one, other), unifier is not None)
            self.check_form(heap)
            if unifier is not None:
                succeeded += 1
                self.assertEqual(heap.load(one), heap.load(other))
                self.assertEqual(renumber(heap.load(one)), renumber(apply(unifier, left)))
                numbers = list(places)
                whole = heap.load(heap.store(f("w", *[v(k) for k in numbers[:8]]), places)) if numbers else a("w")
                if numbers:
                    self.assertEqual(renumber(whole), renumber(f("w", *[apply(unifier, v(k)) for k in numbers[:8]])))
            heap.cut(len(before), 0)
            self.assertEqual(heap.cells(), before)
        self.assertGreater(succeeded, 500)


class Trailing(Cells):

    def heap_of(self, count):
        heap = Heap()
        return heap, [heap.store(v(0), {}) for _ in range(count)]

    def test_nothing_is_protected_at_first(self):
        heap, cells = self.heap_of(3)
        for cell in cells:
            heap.unify(cell, 1)
        self.assertEqual(heap.trail_size(), 0)

    def test_protect(self):
        heap, cells = self.heap_of(6)
        self.assertIsNone(heap.protect(3))
        for at, size in ((0, 1), (3, 1), (2, 2), (5, 2), (4, 2), (1, 3)):
            self.assertIs(heap.unify(cells[at], at + 10), True)
            self.assertEqual(heap.trail_size(), size)
        self.assertEqual(heap.cells(), [10, 11, 12, 13, 14, 15])
        self.assertIsNone(heap.cut(6, 1))
        # Only the entries from there on are undone.
        self.assertEqual(heap.cells(), [10, ("ref", 1), ("ref", 2), 13, 14, 15])
        self.assertEqual(heap.trail_size(), 1)
        heap.cut(4, 0)
        self.assertEqual(heap.cells(), [("ref", 0), ("ref", 1), ("ref", 2), 13])
        self.assertEqual(heap.trail_size(), 0)

    def test_the_index_at_the_limit(self):
        for protected in range(4):
            heap, cells = self.heap_of(3)
            heap.protect(protected)
            heap.unify(cells[1], 7)
            self.assertEqual(heap.trail_size(), 1 if protected > 1 else 0)

    def test_the_greater_one_of_two_variables(self):
        for protected, size in ((0, 0), (1, 0), (2, 0), (3, 1)):
            heap, cells = self.heap_of(3)
            heap.protect(protected)
            heap.unify(cells[0], cells[2])
            self.assertEqual(heap.trail_size(), size)

    def test_protect_can_be_taken_back(self):
        heap, cells = self.heap_of(4)
        heap.protect(4)
        heap.unify(cells[3], 1)
        heap.protect(0)
        heap.unify(cells[2], 1)
        heap.protect(2)
        heap.unify(cells[1], 1)
        self.assertEqual(heap.trail_size(), 2)
        heap.cut(4, 0)
        self.assertEqual(heap.cells(), [("ref", 0), ("ref", 1), 1, ("ref", 3)])

    def test_cut_behind_several_protects(self):
        heap, cells = self.heap_of(2)
        sizes = [(heap.size(), heap.trail_size(), heap.cells())]
        for round_number in range(4):
            heap.protect(heap.size())
            new = heap.store(f("f", v(0), v(1)), {0: cells[0]})
            if round_number % 2 == 0:
                heap.unify(cells[round_number // 2], new if round_number else 5)
            sizes.append((heap.size(), heap.trail_size(), heap.cells()))
        for size, trail_size, before in sizes[::-1]:
            heap.cut(size, trail_size)
            self.assertEqual((heap.size(), heap.trail_size(), heap.cells()), (size, trail_size, before))

    def test_cut_of_everything(self):
        heap, cells = self.heap_of(3)
        heap.protect(3)
        heap.unify(cells[0], cells[2])
        heap.cut(0, 0)
        self.assertEqual((heap.cells(), heap.size(), heap.trail_size()), ([], 0, 0))
        self.assertEqual(heap.store(v(3), {}), ("ref", 0))

    def test_variables_of_the_trail_that_are_cut_off(self):
        heap, cells = self.heap_of(3)
        heap.protect(3)
        heap.unify(cells[2], 8)
        heap.unify(cells[0], 8)
        heap.cut(2, 0)
        self.assertEqual(heap.cells(), [("ref", 0), ("ref", 1)])

    def test_drawn_sequences(self):
        """Cut brings back what there was, cell by cell."""
        source = seeded(64)
        for _ in range(200):
            heap, stack, cells = Heap(), [], [1]
            for _ in range(30):
                kind = source.randrange(5)
                if kind == 0:
                    stack.append((heap.cells(), heap.size(), heap.trail_size(), len(cells)))
                    heap.protect(heap.size())
                elif kind == 1 and stack:
                    before, size, trail_size, count = stack.pop()
                    heap.cut(size, trail_size)
                    self.assertEqual(heap.cells(), before)
                    del cells[count:]
                    heap.protect(stack[-1][1] if stack else 0)
                elif kind == 2:
                    heap.unify(source.choice(cells), source.choice(cells))
                else:
                    places = {k: source.choice(cells) for k in range(2)}
                    cells.append(heap.store(random_term(source, source.randrange(1, 6), ["a", "b"]), places))
                self.check_form(heap)


if __name__ == "__main__":
    unittest.main()
