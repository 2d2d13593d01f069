"""Points 99 to 101, and hornbook/narrowing.py."""

import itertools
import unittest

from helper import random_constraint, random_domain, seeded
from hornbook.domains import domain, values
from hornbook.errors import BadProblem
from hornbook.narrowing import allows, narrow, stable
from hornbook.solving import satisfies, solutions

SMALL = [((0, 3),), ((0, 3),), ((0, 3),)]


def variables_of(constraint):
    if constraint[0] in ("le", "eq", "ne"):
        return [variable for _, variable in constraint[1]]
    return list(constraint[1:] if constraint[0] == "times" else constraint[1])


def allows_by_words(domains, constraint, variable, value):
    """Point 100, word by word, with all values tried one after the other."""
    rows = [values(one) for one in domains]
    if variable not in variables_of(constraint):
        return True
    if any(not rows[other] for other in variables_of(constraint)):
        return False
    if constraint[0] in ("le", "eq"):
        _, sums, bound = constraint
        ends = {other: (row[0], row[-1]) for other, row in enumerate(rows) if row}
        ends[variable] = (value, value)
        least = sum(min(factor * end for end in ends[other]) for factor, other in sums)
        most = sum(max(factor * end for end in ends[other]) for factor, other in sums)
        return least <= bound and (constraint[0] == "le" or most >= bound)
    if constraint[0] == "ne":
        _, sums, bound = constraint
        if any(len(rows[other]) > 1 for _, other in sums if other != variable):
            return True
        return sum(factor * (value if other == variable else rows[other][0]) for factor, other in sums) != bound
    if constraint[0] == "distinct":
        choices = [[value] if other == variable else rows[other] for other in constraint[1]]
        return any(len(set(choice)) == len(choice) for choice in itertools.product(*choices))
    _, x, y, z = constraint
    products = [one * other for one in (rows[x][0], rows[x][-1]) for other in (rows[y][0], rows[y][-1])]
    between = range(rows[z][0], rows[z][-1] + 1)
    return ((variable != z or min(products) <= value <= max(products))
            and (variable != x or any(value * w in between for w in range(rows[y][0], rows[y][-1] + 1)))
            and (variable != y or any(value * w in between for w in range(rows[x][0], rows[x][-1] + 1))))


def narrow_by_words(domains, constraints, source):
    """Remove values in any order until all are allowed."""
    rows = [values(one) for one in domains]
    while True:
        wrong = [(variable, value) for variable, row in enumerate(rows) for value in row
                 if not all(allows_by_words([domain(one) for one in rows], constraint, variable, value)
                            for constraint in constraints)]
        if not wrong:
            break
        variable, value = source.choice(wrong)
        rows[variable] = [other for other in rows[variable] if other != value]
    refuted = any(not row for row in rows) or any(
        constraint[1] == () and not satisfies([], [constraint], []) for constraint in constraints)
    return None if refuted else [domain(row) for row in rows]


class Forms(unittest.TestCase):

    def right(self, domains, constraint):
        with self.subTest(constraint):
            stable(domains, [constraint])
            narrow(domains, [constraint])
            self.assertEqual(len(solutions(domains, [constraint], most=1)) <= 1, True)
            satisfies(domains, [constraint], [0] * len(domains))
            for variable in range(len(domains)):
                self.assertIn(allows(domains, constraint, variable, 0), (True, False))

    def wrong(self, domains, constraint):
        with self.subTest((domains, constraint)):
            for function in (lambda: allows(domains, constraint, 0, 0), lambda: stable(domains, [constraint]),
                             lambda: narrow(domains, [constraint]), lambda: solutions(domains, [constraint]),
                             lambda: narrow(domains, [("distinct", (0,)), constraint]),
                             lambda: satisfies(domains, [constraint], [0] * len(domains))):
                with self.assertRaises(BadProblem):
                    function()

    def test_right_sums(self):
        for kind in ("le", "eq", "ne"):
            for sums in ((), ((1, 0),), ((20, 2), (-20, 0)), ((1, 0), (-1, 1), (3, 2))):
                for bound in (0, 1, -10000, 10000):
                    self.right(SMALL, (kind, sums, bound))

    def test_wrong_sums(self):
        for kind in ("le", "eq", "ne"):
            for sums in (((0, 0),), ((21, 0),), ((-21, 0),), ((1, 3),), ((1, -1),), ((1, 0), (2, 0)), ((1, 0), (1, 0)),
                         ((True, 0),), ((1, True),), ((1, False),), ((1,),), ((1, 0, 0),), [(1, 0)], ([1, 0],), (1, 0),
                         None, 3, "ab", ((1, None),), (("1", 0),), ((),), (None,), ((1, "0"),)):
                self.wrong(SMALL, (kind, sums, 0))
            for bound in (10001, -10001, 10 ** 30, True, None, "0", (0,)):
                self.wrong(SMALL, (kind, ((1, 0),), bound))
            for constraint in ((kind,), (kind, ((1, 0),)), (kind, ((1, 0),), 0, 0), [kind, ((1, 0),), 0],
                               (kind, 0, ((1, 0),))):
                self.wrong(SMALL, constraint)

    def test_6_and_7_pairs(self):
        domains = [((0, 1),)] * 7
        for kind in ("le", "eq", "ne"):
            self.right(domains, (kind, tuple((1, variable) for variable in range(6)), 3))
            self.wrong(domains, (kind, tuple((1, variable) for variable in range(7)), 3))

    def test_times(self):
        for words in ((0, 1, 2), (0, 0, 1), (0, 1, 0), (2, 2, 2), (1, 0, 0)):
            self.right(SMALL, ("times", *words))
        for words in ((0, 1), (0, 1, 2, 2), (), (0, 1, 3), (3, 1, 0), (0, -1, 2), (0, 1, True), (False, 1, 2),
                      (0, None, 1), (0, "1", 2), ((0, 1, 2),)):
            self.wrong(SMALL, ("times", *words))

    def test_distinct(self):
        many = [((0, 20),)] * 12
        for words in ((0,), (2, 0, 1), (1, 2)):
            self.right(SMALL, ("distinct", words))
        self.right(many, ("distinct", tuple(range(12))))
        for words in ((), (0, 0), (0, 1, 0), (3,), (-1,), (True, 0), (0, False), [0, 1], None, 0, "01", (None,),
                      ((0,),)):
            self.wrong(SMALL, ("distinct", words))
        self.wrong(SMALL, ("distinct", 0, 1))
        self.wrong(SMALL, ("distinct",))
        self.wrong(many, ("distinct", tuple(range(12)) + (0,)))
        self.wrong(many, ("distinct", tuple(range(13))))

    def test_no_constraints_at_all(self):
        for constraint in (None, (), [], 3, True, "le", ("lt", ((1, 0),), 0), ("LE", ((1, 0),), 0), (None,), ((),),
                           (3, 4, 5), ("",), ("sum", (0, 1)), (["le"], ((1, 0),), 0)):
            self.wrong(SMALL, constraint)

    def test_wrong_domains(self):
        for one in (None, 3, [(0, 1)], ((0, 51),), ((-51, 0),), ((1, 0),), ((0, 1), (2, 3)), ((0, True),), ((0, 1, 2),),
                    ([0, 1],), ((3, 4), (0, 1)), "ab"):
            for domains in ([one], [((0, 1),), one], [one, ((0, 1),)]):
                self.wrong(domains, ("distinct", (0,)))

    def test_12_and_13_domains(self):
        self.right([((0, 1),)] * 12, ("le", ((1, 11),), 0))
        self.wrong([((0, 1),)] * 13, ("le", ((1, 0),), 0))
        self.wrong([((0, 1),)] * 12, ("le", ((1, 12),), 0))
        self.wrong([], ("distinct", (0,)))

    def test_the_arguments_are_not_changed(self):
        domains = [((0, 3),), ((2, 9),)]
        constraints = [("le", ((1, 0), (-1, 1)), -4), ("distinct", (0, 1))]
        narrow(domains, constraints)
        stable(domains, constraints)
        solutions(domains, constraints)
        self.assertEqual(domains, [((0, 3),), ((2, 9),)])
        self.assertEqual(constraints, [("le", ((1, 0), (-1, 1)), -4), ("distinct", (0, 1))])


class Allows(unittest.TestCase):

    def check(self, domains, constraint, variable, expected):
        """The values of the domain that are allowed."""
        found = [value for value in values(domains[variable]) if allows(domains, constraint, variable, value)]
        self.assertEqual(found, expected)
        for value in values(domains[variable]):
            self.assertIs(allows(domains, constraint, variable, value), value in expected)

    def test_variables_that_do_not_occur(self):
        for constraint in (("le", ((1, 0),), -9), ("eq", ((1, 0), (1, 1)), 99), ("ne", ((1, 0),), 0),
                           ("times", 0, 1, 0), ("distinct", (0, 1)), ("le", (), -1)):
            self.check(SMALL, constraint, 2, [0, 1, 2, 3])

    def test_empty_domains(self):
        domains = [((0, 3),), (), ((0, 3),)]
        for constraint in (("le", ((1, 0), (1, 1)), 99), ("eq", ((1, 0), (1, 1)), 0), ("ne", ((1, 0), (1, 1)), 99),
                           ("times", 0, 1, 0), ("times", 1, 1, 0), ("distinct", (0, 1))):
            self.check(domains, constraint, 0, [])
            self.check(domains, constraint, 2, [0, 1, 2, 3])

    def test_le(self):
        domains = [((1, 5),), ((2, 4),), ((-3, 3),)]
        self.check(domains, ("le", ((1, 0),), 3), 0, [1, 2, 3])
        self.check(domains, ("le", ((-1, 0),), -3), 0, [3, 4, 5])
        self.check(domains, ("le", ((1, 0), (1, 1)), 5), 0, [1, 2, 3])
        self.check(domains, ("le", ((1, 0), (-1, 1)), -1), 0, [1, 2, 3])
        self.check(domains, ("le", ((1, 0), (-2, 2)), -4), 0, [1, 2])
        self.check(domains, ("le", ((20, 0), (1, 1)), 62), 0, [1, 2, 3])
        self.check(domains, ("le", ((20, 0), (1, 1)), 61), 0, [1, 2])
        self.check(domains, ("le", ((1, 0),), 10000), 0, [1, 2, 3, 4, 5])
        self.check(domains, ("le", ((1, 0),), -10000), 0, [])

    def test_eq(self):
        domains = [((1, 5),), ((2, 4),), ((1, 1), (9, 9))]
        self.check(domains, ("eq", ((1, 0),), 3), 0, [3])
        self.check(domains, ("eq", ((1, 0), (1, 1)), 5), 0, [1, 2, 3])
        self.check(domains, ("eq", ((1, 0), (1, 1)), 5), 1, [2, 3, 4])
        self.check(domains, ("eq", ((1, 0), (-1, 1)), 0), 0, [2, 3, 4])
        # Only the ends count, not the values that are missing between them.
        self.check(domains, ("eq", ((1, 0), (1, 2)), 8), 0, [1, 2, 3, 4, 5])
        self.check(domains, ("eq", ((2, 0), (2, 1)), 9), 0, [1, 2])

    def test_ne(self):
        domains = [((1, 5),), ((2, 2),), ((1, 2),), ((0, 0),)]
        self.check(domains, ("ne", ((1, 0),), 3), 0, [1, 2, 4, 5])
        self.check(domains, ("ne", ((1, 0), (1, 1)), 5), 0, [1, 2, 4, 5])
        self.check(domains, ("ne", ((1, 0), (1, 2)), 5), 0, [1, 2, 3, 4, 5])
        self.check(domains, ("ne", ((1, 0), (1, 1)), 5), 1, [2])
        self.check(domains, ("ne", ((-2, 0), (3, 1), (1, 3)), 0), 0, [1, 2, 4, 5])
        self.check(domains, ("ne", ((1, 1), (1, 3)), 2), 1, [])
        self.check(domains, ("ne", ((1, 1), (1, 3)), 3), 1, [2])

    def test_times(self):
        domains = [((2, 3),), ((-1, 4),), ((-50, 50),), ((5, 7),), ((0, 0),), ((-3, -2),)]
        self.check(domains, ("times", 0, 1, 2), 2, list(range(-3, 13)))
        self.check(domains, ("times", 0, 5, 2), 2, [-9, -8, -7, -6, -5, -4])
        self.check(domains, ("times", 0, 1, 3), 1, [2, 3])
        self.check(domains, ("times", 0, 1, 3), 0, [2, 3])
        self.check(domains, ("times", 2, 0, 3), 2, [2, 3])
        self.check(domains, ("times", 2, 5, 3), 2, [-3, -2])
        self.check(domains, ("times", 2, 4, 4), 2, list(range(-50, 51)))
        self.check(domains, ("times", 2, 4, 3), 2, [])
        self.check(domains, ("times", 1, 2, 4), 1, [-1, 0, 1, 2, 3, 4])
        self.check(domains, ("times", 1, 3, 4), 1, [0])
        # w may be a value that is missing in the domain of y.
        domains = [((2, 2),), ((1, 1), (9, 9)), ((6, 6),)]
        self.check(domains, ("times", 0, 1, 2), 0, [2])

    def test_times_with_one_variable_at_several_places(self):
        domains = [((-2, 3),), ((-50, 50),)]
        self.check(domains, ("times", 0, 0, 1), 1, list(range(-6, 10)))
        self.check(domains, ("times", 0, 0, 1), 0, [-2, -1, 0, 1, 2, 3])
        self.check([((2, 3),), ((-50, 50),)], ("times", 0, 1, 0), 0, [2, 3])
        self.check([((2, 3),), ((-50, 50),)], ("times", 0, 1, 0), 1, [1])
        self.check([((2, 5),)], ("times", 0, 0, 0), 0, [])
        self.check([((-1, 5),)], ("times", 0, 0, 0), 0, [-1, 0, 1, 2, 3, 4, 5])
        self.check([((1, 5),)], ("times", 0, 0, 0), 0, [1, 2, 3, 4, 5])
        self.check([((3, 5),), ((2, 9),)], ("times", 1, 0, 0), 0, [])
        self.check([((3, 5),), ((2, 9),)], ("times", 1, 0, 0), 1, [])

    def test_distinct(self):
        domains = [((1, 2),), ((1, 2),), ((1, 3),)]
        self.check(domains, ("distinct", (0, 1, 2)), 2, [3])
        self.check(domains, ("distinct", (0, 1, 2)), 0, [1, 2])
        self.check(domains, ("distinct", (0, 2)), 2, [1, 2, 3])
        self.check(domains, ("distinct", (2,)), 2, [1, 2, 3])
        self.check([((1, 1),), ((1, 2),), ((2, 3),), ((1, 9),)], ("distinct", (0, 1, 2, 3)), 3, [4, 5, 6, 7, 8, 9])
        self.check([((1, 2),), ((1, 2),), ((1, 2),)], ("distinct", (0, 1, 2)), 0, [])
        self.check([((1, 12),)] * 12, ("distinct", tuple(range(12))), 7, list(range(1, 13)))
        self.check([((1, 11),)] * 12, ("distinct", tuple(range(12))), 7, [])

    def test_against_the_words(self):
        source = seeded(100)
        outcomes = {True: 0, False: 0}
        for _ in range(1500):
            count = source.randrange(1, 5)
            domains = [random_domain(source, -3, 3, source.choice((0.2, 0.5, 0.9))) for _ in range(count)]
            constraint = random_constraint(source, count)
            for variable in range(count):
                for value in values(domains[variable]):
                    expected = allows_by_words(domains, constraint, variable, value)
                    outcomes[expected] += 1
                    self.assertIs(allows(domains, constraint, variable, value), expected)
        self.assertGreater(min(outcomes.values()), 1000)

    def test_large_values_against_the_words(self):
        source = seeded(1000)
        for _ in range(150):
            domains = [random_domain(source, low, low + source.randrange(60), 0.6)
                       for low in (source.randrange(-50, -9), source.randrange(-30, -9), source.randrange(-50, -9))]
            for constraint in (("times", 0, 1, 2), ("times", 0, 0, 2), ("times", 0, 1, 1)):
                for variable in range(3):
                    for value in values(domains[variable]):
                        self.assertIs(allows(domains, constraint, variable, value),
                                      allows_by_words(domains, constraint, variable, value))


class Narrow(unittest.TestCase):

    def test_the_example(self):
        domains = [((1, 2),), ((1, 2),), ((1, 3),)]
        self.assertEqual(narrow(domains, [("distinct", (0, 1, 2))]), [((1, 2),), ((1, 2),), ((3, 3),)])
        self.assertEqual(narrow([((-2, 3),), ((-50, 50),)], [("times", 0, 0, 1)]), [((-2, 3),), ((-6, 9),)])
        self.assertIs(stable(domains, [("distinct", (0, 1, 2))]), False)
        self.assertIs(stable([((1, 2),), ((1, 2),), ((3, 3),)], [("distinct", (0, 1, 2))]), True)

    def test_no_constraints(self):
        self.assertEqual(narrow([], []), [])
        self.assertEqual(narrow(SMALL, []), SMALL)
        self.assertIs(stable([], []), True)
        self.assertIs(stable(SMALL + [()], []), True)
        self.assertIs(type(narrow(SMALL, [])), list)

    def test_refuted(self):
        self.assertIsNone(narrow([()], []))
        self.assertIsNone(narrow(SMALL + [()], []))
        self.assertIsNone(narrow(SMALL, [("le", ((1, 0),), -1)]))
        self.assertIsNone(narrow(SMALL, [("le", ((1, 0), (-1, 1)), -1), ("le", ((1, 1), (-1, 0)), -1)]))
        self.assertIsNone(narrow([((1, 2),)] * 3, [("distinct", (0, 1, 2))]))
        self.assertIsNone(narrow([((0, 0),)] * 2, [("ne", ((1, 0), (1, 1)), 0)]))

    def test_sums_without_pairs(self):
        for constraint, fulfilled in ((("le", (), 0), True), (("le", (), 5), True), (("le", (), -1), False),
                                      (("eq", (), 0), True), (("eq", (), 1), False), (("eq", (), -1), False),
                                      (("ne", (), 0), False), (("ne", (), 1), True)):
            self.assertEqual(narrow(SMALL, [constraint]), SMALL if fulfilled else None)
            self.assertEqual(narrow([], [constraint]), [] if fulfilled else None)
            self.assertIs(stable(SMALL, [constraint]), True)
            self.assertEqual(solutions([], [constraint]), [()] if fulfilled else [])
            self.assertIs(satisfies([], [constraint], []), fulfilled)

    def test_stable_with_empty_domains(self):
        self.assertIs(stable([(), ((0, 1),)], [("distinct", (0, 1))]), False)
        self.assertIs(stable([(), ()], [("distinct", (0, 1))]), True)
        self.assertIs(stable([(), ((0, 1),)], [("distinct", (1,))]), True)

    def test_values_are_removed_one_after_the_other(self):
        chain = [("le", ((1, variable), (-1, variable + 1)), -1) for variable in range(11)]
        expected = [((variable, variable + 1),) for variable in range(12)]
        self.assertEqual(narrow([((0, 12),)] * 12, chain), expected)
        self.assertEqual(narrow([((0, 12),)] * 12, chain[::-1]), expected)
        self.assertIsNone(narrow([((0, 10),)] * 12, chain))
        loop = [("le", ((1, 0), (-1, 1)), -1), ("le", ((1, 1), (-1, 0)), 0)]
        self.assertIsNone(narrow([((-50, 50),)] * 2, loop))

    def test_holes(self):
        self.assertEqual(narrow([((1, 3),), ((2, 2),)], [("ne", ((1, 0), (-1, 1)), 0)]), [((1, 1), (3, 3)), ((2, 2),)])

    def test_against_the_words(self):
        source = seeded(101)
        outcomes = {True: 0, False: 0}
        for _ in range(250):
            count = source.randrange(1, 5)
            domains = [random_domain(source, -4, 4, source.choice((0.5, 0.9))) for _ in range(count)]
            constraints = [random_constraint(source, count) for _ in range(source.randrange(4))]
            expected = narrow_by_words(domains, constraints, source)
            found = narrow(domains, constraints)
            self.assertEqual(found, expected)
            outcomes[found is None] += 1
            source.shuffle(constraints)
            self.assertEqual(narrow(domains, constraints), expected)
            if found is None:
                self.assertEqual(solutions(domains, constraints), [])
            else:
                self.assertIs(stable(found, constraints), True)
                self.assertEqual(narrow(found, constraints), found)
            for chosen in itertools.product(*[values(one) for one in domains]):
                if satisfies(domains, constraints, list(chosen)):
                    self.assertTrue(all(value in values(one) for value, one in zip(chosen, found)))
        self.assertGreater(min(outcomes.values()), 30)


if __name__ == "__main__":
    unittest.main()
