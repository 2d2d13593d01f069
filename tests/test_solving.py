"""Points 99 and 103, and hornbook/solving.py."""

import itertools
import time
import unittest

from helper import random_constraint, random_domain, seeded
from hornbook.domains import domain, values
from hornbook.solving import satisfies, solutions


def holds(constraint, chosen):
    """Point 99, word by word."""
    if constraint[0] == "times":
        return chosen[constraint[3]] == chosen[constraint[1]] * chosen[constraint[2]]
    if constraint[0] == "distinct":
        return all(chosen[one] != chosen[other] for one, other in itertools.combinations(constraint[1], 2))
    total = sum(factor * chosen[variable] for factor, variable in constraint[1])
    return {"le": total <= constraint[2], "eq": total == constraint[2], "ne": total != constraint[2]}[constraint[0]]


class Satisfies(unittest.TestCase):

    def test_each_kind(self):
        domains = [((-5, 5),), ((-5, 5),), ((-5, 5),)]
        for constraint, chosen, expected in (
                (("le", ((2, 0), (-1, 1)), 3), [2, 1, 0], True), (("le", ((2, 0), (-1, 1)), 3), [2, 0, 0], False),
                (("eq", ((2, 0), (-1, 1)), 3), [2, 1, 0], True), (("eq", ((2, 0), (-1, 1)), 3), [1, 1, 0], False),
                (("ne", ((2, 0), (-1, 1)), 3), [2, 1, 0], False), (("ne", ((2, 0), (-1, 1)), 3), [1, 1, 0], True),
                (("times", 0, 1, 2), [-2, 2, -4], True), (("times", 0, 1, 2), [-2, 2, 4], False),
                (("times", 0, 0, 1), [-2, 4, 0], True), (("times", 0, 1, 0), [3, 1, 0], True),
                (("times", 0, 0, 0), [1, 0, 0], True), (("times", 0, 0, 0), [2, 0, 0], False),
                (("distinct", (0, 2)), [1, 1, 2], True), (("distinct", (0, 1)), [1, 1, 2], False),
                (("distinct", (1,)), [1, 1, 1], True), (("distinct", (2, 1, 0)), [1, 2, 1], False)):
            with self.subTest((constraint, chosen)):
                self.assertIs(satisfies(domains, [constraint], chosen), expected)
                self.assertIs(satisfies(domains, [("le", (), 0), constraint], chosen), expected)

    def test_values_outside_of_a_domain(self):
        domains = [((1, 2), (5, 5)), ((0, 0),)]
        for value in (1, 2, 5):
            self.assertIs(satisfies(domains, [], [value, 0]), True)
        for chosen in ([0, 0], [3, 0], [4, 0], [6, 0], [1, 1], [-50, 0], [1, 10 ** 9]):
            self.assertIs(satisfies(domains, [], chosen), False)
        self.assertIs(satisfies([((0, 1),), ()], [], [0, 0]), False)

    def test_too_few_or_too_many_values(self):
        domains = [((0, 1),), ((0, 1),)]
        constraint = ("le", ((1, 0), (1, 1)), 5)
        self.assertIs(satisfies(domains, [constraint], [0, 1]), True)
        for chosen in ([], [0], [0, 1, 0], [0, 1, 0, 0]):
            self.assertIs(satisfies(domains, [constraint], chosen), False)
            self.assertIs(satisfies(domains, [], chosen), False)
        self.assertIs(satisfies([], [], []), True)
        self.assertIs(satisfies([], [], [1]), False)


class Solutions(unittest.TestCase):

    def test_in_lexicographic_order(self):
        domains = [((1, 1), (3, 3)), ((-1, 0),), ((2, 2),)]
        self.assertEqual(solutions(domains, []), [(1, -1, 2), (1, 0, 2), (3, -1, 2), (3, 0, 2)])
        self.assertEqual(solutions([((1, 3),)] * 2, [("distinct", (1, 0))]),
                         [(1, 2), (1, 3), (2, 1), (2, 3), (3, 1), (3, 2)])
        self.assertEqual(solutions([], []), [()])
        self.assertEqual(solutions([()], []), [])
        self.assertEqual(solutions([((0, 1),), ()], []), [])
        self.assertIs(type(solutions([((0, 1),)], [])), list)
        self.assertIs(type(solutions([((0, 1),)], [])[0]), tuple)

    def test_most(self):
        domains = [((1, 2),), ((1, 2),)]
        everything = [(1, 1), (1, 2), (2, 1), (2, 2)]
        self.assertEqual(solutions(domains, [], most=None), everything)
        for most in range(7):
            self.assertEqual(solutions(domains, [], most=most), everything[:most])
        self.assertEqual(solutions([], [], most=0), [])
        self.assertEqual(solutions([], [], most=1), [()])
        self.assertEqual(solutions(domains, [("le", ((1, 0),), 0)], most=3), [])

    def test_the_first_ones_of_many(self):
        begin = time.process_time()
        found = solutions([((-50, 50),)] * 12, [("distinct", tuple(range(12)))], most=3)
        first = list(range(-50, -38))
        self.assertEqual(found, [tuple(first[:11] + [last]) for last in (-39, -38, -37)])
        self.assertLess(time.process_time() - begin, 20)

    def test_queens(self):
        for count, expected in ((1, 1), (2, 0), (3, 0), (4, 2), (5, 10), (6, 4), (7, 40)):
            constraints = [("distinct", tuple(range(count)))]
            for one, other in itertools.combinations(range(count), 2):
                for apart in (one - other, other - one):
                    constraints.append(("ne", ((1, one), (-1, other)), apart))
            found = solutions([((1, count),)] * count, constraints)
            self.assertEqual(len(found), expected)
            self.assertEqual(found, sorted(found))

    def test_a_magic_square(self):
        lines = ((0, 1, 2), (3, 4, 5), (6, 7, 8), (0, 3, 6), (1, 4, 7), (2, 5, 8), (0, 4, 8), (2, 4, 6))
        constraints = [("distinct", tuple(range(9)))]
        constraints += [("eq", tuple((1, place) for place in line), 15) for line in lines]
        found = solutions([((1, 9),)] * 9, constraints)
        self.assertEqual(len(found), 8)
        self.assertEqual(found[0], (2, 7, 6, 9, 5, 1, 4, 3, 8))

    def test_products(self):
        found = solutions([((-50, 50),)] * 3, [("times", 0, 1, 2), ("le", ((1, 0), (-1, 1)), 0), ("eq", ((1, 2),), 36)])
        expected = [(a, 36 // a, 36) for a in range(-50, 51) if a and 36 % a == 0 and a <= 36 // a]
        self.assertEqual(found, sorted(expected))

    def test_against_all_choices(self):
        source = seeded(103)
        many = 0
        for _ in range(300):
            count = source.randrange(5)
            domains = [random_domain(source, -3, 3, source.choice((0.5, 0.9))) for _ in range(count)]
            constraints = [random_constraint(source, count) for _ in range(source.randrange(4)) if count]
            expected = [chosen for chosen in itertools.product(*[values(one) for one in domains])
                        if all(holds(constraint, chosen) for constraint in constraints)]
            self.assertEqual(solutions(domains, constraints), expected)
            most = source.randrange(4)
            self.assertEqual(solutions(domains, constraints, most=most), expected[:most])
            for chosen in itertools.product(range(-1, 2), repeat=count):
                self.assertIs(satisfies(domains, constraints, list(chosen)), chosen in expected)
            many += len(expected)
        self.assertGreater(many, 1000)

    def test_results_are_apart(self):
        domains = [domain([1, 2])]
        solutions(domains, []).append("more")
        self.assertEqual(solutions(domains, []), [(1,), (2,)])


if __name__ == "__main__":
    unittest.main()
