"""Points 71 to 74, and hornbook/indexing.py."""

import time
import unittest

from helper import a, chain, f, i, random_term, read, seeded, v
from hornbook.indexing import Index, best_plan, candidates, key
from hornbook.program import split_clause
from hornbook.terms import parts

TRUE = a("true")


def pairs(*texts):
    """The clauses of these texts as pairs of a head and a body."""
    return [split_clause(read(text)) for text in texts]


def by_words(clauses, arguments, plan):
    """Point 72, word by word."""
    def conflicting(one, other):
        return one is not None and other is not None and one != other

    found = []
    for position, (head, _) in enumerate(clauses):
        if all(not conflicting(key(arguments[index]), key(parts(head)[index]))
               for index in plan if index < len(arguments)):
            found.append(position)
    return found


class Keys(unittest.TestCase):

    def test_each_kind(self):
        self.assertEqual(key(i(7)), 7)
        self.assertEqual(key(i(-7)), -7)
        self.assertEqual(key(a("a")), ("f", "a", 0))
        self.assertEqual(key(f("f", v(0), i(1))), ("f", "f", 2))
        self.assertEqual(key(f("f", v(0))), ("f", "f", 1))
        self.assertIsNone(key(v(0)))
        self.assertIsNone(key(v(12)))
        self.assertEqual(key(i(0)), 0)
        self.assertEqual(key(chain("s", 999, v(0))), ("f", "s", 1))


class Candidates(unittest.TestCase):

    CLAUSES = pairs("p(a, 1)", "p(X, 2) :- q", "p(b, Y)", "p(a, f(Z))", "p(f(a), f(a, b))", "p(1, 1)", "p(X, X)",
        "p(a, 1)")

    def check(self, arguments, plan, expected):
        given = list(self.CLAUSES)
        found = candidates(given, arguments, plan)
        self.assertEqual(found, expected)
        self.assertEqual(found, by_words(given, arguments, plan))
        self.assertIs(type(found), list)
        self.assertEqual(given, self.CLAUSES)

    def test_one_index(self):
        self.check([a("a"), i(1)], (0,), [0, 1, 3, 6, 7])
        self.check([v(0), i(1)], (0,), [0, 1, 2, 3, 4, 5, 6, 7])
        self.check([f("f", v(3)), i(1)], (0,), [1, 4, 6])
        self.check([f("f", v(3), v(3)), i(1)], (0,), [1, 6])
        self.check([i(1), v(0)], (0,), [1, 5, 6])
        self.check([a("none"), i(7)], (0,), [1, 6])
        self.check([a("a"), i(1)], (1,), [0, 2, 5, 6, 7])

    def test_several_indexes(self):
        self.check([a("a"), i(1)], (0, 1), [0, 6, 7])
        self.check([a("a"), i(1)], (1, 0), [0, 6, 7])
        self.check([a("a"), v(0)], (0, 1), [0, 1, 3, 6, 7])
        self.check([f("f", a("a")), f("f", a("a"))], (0, 1), [6])

    def test_plans_with_an_index_twice_beyond_the_arity_or_none(self):
        every = list(range(8))
        self.check([a("a"), i(1)], (), every)
        self.check([a("a"), i(1)], (0, 0), [0, 1, 3, 6, 7])
        self.check([a("a"), i(1)], (1, 0, 1, 0), [0, 6, 7])
        self.check([a("a"), i(1)], (2,), every)
        self.check([a("a"), i(1)], (2, 7, 10 ** 20), every)
        self.check([a("a"), i(1)], (5, 0, 2), [0, 1, 3, 6, 7])

    def test_without_clauses_and_without_arguments(self):
        self.assertEqual(candidates([], [a("a")], (0,)), [])
        self.assertEqual(candidates([], [], (0,)), [])
        self.assertEqual(candidates(pairs("p", "p :- q"), [], (0, 1)), [0, 1])

    def test_drawn(self):
        source = seeded(72)
        for _ in range(500):
            clauses = [(f("p", *[random_term(source, 3, ["a", "b"]) for _ in range(3)]), TRUE)
                       for _ in range(source.randrange(6))]
            arguments = [random_term(source, 3, ["a", "b"]) for _ in range(3)]
            plan = tuple(source.randrange(5) for _ in range(source.randrange(4)))
            self.assertEqual(candidates(clauses, arguments, plan), by_words(clauses, arguments, plan))


class BestPlan(unittest.TestCase):

    def test_best_plan(self):
        for texts, plan in (
                ([], ()), (["p"], ()), (["p(X, Y)"], ()), (["p(X, X)", "p(Y, Z)"], ()), (["p(a, Y)"], (0,)),
                (["p(X, a)"], (1,)), (["p(X, Y, f(X))", "p(1, Y, Z)"], (0, 2)), (["p(X, Y, Z) :- q(a, a, a)"], ()),
                (["p(A, B, C, D, E, F, G, 8)", "p(1, B, C, D, E, F, G, H)", "p(A, B, C, f(Q), E, F, G, 7)"],
                (0, 3, 7))):
            with self.subTest(texts):
                self.assertEqual(best_plan(pairs(*texts)), plan)
                self.assertIs(type(best_plan(pairs(*texts))), tuple)


class Indexing(unittest.TestCase):

    def check(self, index, clauses, argument, source):
        for term in [v(0), i(1), a("a"), a("zz"), f("a", v(0)), *[random_term(source, 3, ["a",
            "b"]) for _ in range(3)]]:
            expected = [position for position, (head, _) in enumerate(clauses)
                        if key(term) is None or key(parts(head)[argument]) in (None, key(term))]
            found = index.find(term)
            self.assertEqual(found, expected)
            self.assertIs(type(found), list)
            arguments = [v(90)] * head_arity(clauses)
            if clauses:
                arguments[argument] = term
                self.assertEqual(found, candidates(clauses, arguments, (argument,)))

    def test_find(self):
        clauses = pairs("p(a, 1)", "p(X, 2)", "p(b, Y)", "p(a, f(Z))", "p(f(a), c)", "p(1, 1)")
        first, second = Index(clauses, 0), Index(clauses, 1)
        self.assertEqual(first.find(a("a")), [0, 1, 3])
        self.assertEqual(first.find(v(4)), [0, 1, 2, 3, 4, 5])
        self.assertEqual(first.find(i(1)), [1, 5])
        self.assertEqual(first.find(i(2)), [1])
        self.assertEqual(second.find(i(1)), [0, 2, 5])
        self.assertEqual(second.find(f("f", v(0))), [2, 3])
        self.assertEqual(Index([], 0).find(a("a")), [])
        self.assertEqual(Index([], 3).find(v(0)), [])

    def test_add_and_remove(self):
        index = Index(pairs("p(a)"), 0)
        self.assertIsNone(index.add_first(*pairs("p(b)")))
        self.assertIsNone(index.add_last(*pairs("p(X)")))
        index.add_first(*pairs("p(a)"))
        self.assertEqual((index.find(a("a")), index.find(a("b")), index.find(v(0))), ([0, 2, 3], [1, 3], [0, 1, 2, 3]))
        self.assertIsNone(index.remove_at(2))
        self.assertEqual((index.find(a("a")), index.find(a("b")), index.find(v(0))), ([0, 2], [1, 2], [0, 1, 2]))
        index.remove_at(0)
        self.assertEqual((index.find(a("a")), index.find(a("b")), index.find(v(0))), ([1], [0, 1], [0, 1]))
        index.remove_at(1)
        index.remove_at(0)
        self.assertEqual((index.find(a("a")), index.find(v(0))), ([], []))
        index.add_last(*pairs("p(c)"))
        index.add_first(*pairs("p(a)"))
        self.assertEqual((index.find(a("c")), index.find(v(0))), ([1], [0, 1]))

    def test_drawn_sequences(self):
        source = seeded(74)
        for _ in range(60):
            arity = source.randrange(1, 4)
            argument = source.randrange(arity)

            def clause():
                return (f("p", *[random_term(source, 2, ["a", "b"]) for _ in range(arity)]), TRUE)

            clauses = [clause() for _ in range(source.randrange(5))]
            given = list(clauses)
            index, other = Index(given, argument), Index(given, argument)
            for _ in range(40):
                kind = source.randrange(4)
                new = clause()
                if kind == 0:
                    index.add_first(new)
                    clauses = [new] + clauses
                elif kind == 1:
                    index.add_last(new)
                    clauses = clauses + [new]
                elif kind == 2 and clauses:
                    position = source.randrange(len(clauses))
                    index.remove_at(position)
                    clauses = clauses[:position] + clauses[position + 1:]
                self.check(index, clauses, argument, source)
            # Neither the list that was passed nor another index has changed.
            self.check(other, given, argument, source)

    def test_results_are_apart(self):
        clauses = pairs("p(a)", "p(X)")
        index = Index(clauses, 0)
        for term in (v(0), a("a"), a("b")):
            before = index.find(term)
            index.find(term).append(9)
            self.assertEqual(index.find(term), before)
        clauses.append(clauses[0])
        self.assertEqual(index.find(v(0)), [0, 1])

    def test_an_index_beyond_the_arity(self):
        index = Index(pairs("p(a)", "p(b)"), 3)
        self.assertEqual(index.find(a("a")), [0, 1])

    def test_it_does_not_look_at_all_clauses(self):
        clauses = [(f("p", i(number)), TRUE) for number in range(20000)]
        index = Index(clauses, 0)
        started = time.time()
        for number in range(0, 20000, 2):
            self.assertEqual(index.find(i(number)), [number])
        self.assertLess(time.time() - started, 5)


def head_arity(clauses):
    return len(parts(clauses[0][0])) if clauses else 0


if __name__ == "__main__":
    unittest.main()
