"""Point 98, and hornbook/domains.py."""

import unittest

from helper import intervals, seeded
from hornbook.domains import domain, is_domain, meet, values, without
from hornbook.errors import BadProblem


def plain(members):
    return intervals(sorted(members))


class Domain(unittest.TestCase):

    def test_values_in_any_order(self):
        self.assertEqual(domain([]), ())
        self.assertEqual(domain([3]), ((3, 3),))
        self.assertEqual(domain([5, 3, 4]), ((3, 5),))
        self.assertEqual(domain([7, -1, 0, 9, 8, -1, 7, 3]), ((-1, 0), (3, 3), (7, 9)))
        self.assertEqual(domain([1, 3, 2, 2, 1]), ((1, 3),))
        self.assertEqual(domain([0, 2, 4]), ((0, 0), (2, 2), (4, 4)))

    def test_the_bounds(self):
        self.assertEqual(domain([50, -50]), ((-50, -50), (50, 50)))
        self.assertEqual(domain(list(range(50, -51, -1))), ((-50, 50),))
        for value in (-51, 51, 1000, -10 ** 20):
            for given in ([value], [1, value], [value, 1], [value, value]):
                with self.assertRaises(BadProblem):
                    domain(given)

    def test_no_integers(self):
        for given in ([True], [1, False], [True, True, 2]):
            with self.assertRaises(BadProblem):
                domain(given)

    def test_the_list_is_not_changed(self):
        given = [3, 1, 2, 3]
        domain(given)
        self.assertEqual(given, [3, 1, 2, 3])

    def test_random_values(self):
        source = seeded(98)
        for _ in range(300):
            given = [source.randrange(-50, 51) for _ in range(source.randrange(60))]
            self.assertEqual(domain(given), plain(set(given)))
            self.assertIs(is_domain(domain(given)), True)
            self.assertEqual(values(domain(given)), sorted(set(given)))


class Values(unittest.TestCase):

    def test_values(self):
        self.assertEqual(values(()), [])
        self.assertEqual(values(((3, 3),)), [3])
        self.assertEqual(values(((-50, -48), (0, 1), (50, 50))), [-50, -49, -48, 0, 1, 50])
        self.assertEqual(values(((-50, 50),)), list(range(-50, 51)))

    def test_meet(self):
        self.assertEqual(meet(((1, 5),), ((3, 9),)), ((3, 5),))
        self.assertEqual(meet(((1, 5),), ((5, 9),)), ((5, 5),))
        self.assertEqual(meet(((1, 5),), ((6, 9),)), ())
        self.assertEqual(meet(((1, 9),), ((2, 3), (5, 5), (9, 12))), ((2, 3), (5, 5), (9, 9)))
        for one in ((), ((1, 5),), ((-50, 50),)):
            self.assertEqual(meet((), one), ())
            self.assertEqual(meet(one, ()), ())
            self.assertEqual(meet(one, one), one)

    def test_without(self):
        self.assertEqual(without(((1, 5),), 3), ((1, 2), (4, 5)))
        self.assertEqual(without(((1, 5),), 1), ((2, 5),))
        self.assertEqual(without(((1, 5),), 5), ((1, 4),))
        self.assertEqual(without(((1, 1), (3, 4)), 1), ((3, 4),))
        self.assertEqual(without(((1, 1),), 1), ())
        for value in (0, 6, 51, -51, 1000):
            self.assertEqual(without(((1, 5),), value), ((1, 5),))
        self.assertEqual(without((), 3), ())
        self.assertEqual(without(((-50, 50),), 50), ((-50, 49),))

    def test_random_domains(self):
        source = seeded(980)
        for _ in range(200):
            one = {source.randrange(-50, 51) for _ in range(source.randrange(80))}
            other = {source.randrange(-50, 51) for _ in range(source.randrange(80))}
            value = source.randrange(-50, 51)
            self.assertEqual(meet(plain(one), plain(other)), plain(one & other))
            self.assertEqual(without(plain(one), value), plain(one - {value}))


class IsDomain(unittest.TestCase):

    def test_domains(self):
        for value in ((), ((3, 3),), ((-50, 50),), ((-50, -50), (50, 50)), ((1, 2), (4, 4), (6, 9)), ((0, 0), (2, 2))):
            self.assertIs(is_domain(value), True)

    def test_intervals_that_touch_overlap_are_empty_or_out_of_order(self):
        for value in (((1, 2), (3, 4)), ((1, 2), (2, 4)), ((1, 5), (2, 3)), ((1, 2), (1, 2)), ((3, 4), (1, 1)),
                      ((2, 1),), ((1, 2), (5, 4)), ((5, 6), (1, 2)), ((1, 1), (3, 3), (4, 4)),
                      ((1, 9), (3, 3), (20, 21))):
            with self.subTest(value):
                self.assertIs(is_domain(value), False)

    def test_values_out_of_bounds(self):
        for value in (((-51, 0),), ((0, 51),), ((-50, 50), (60, 70)), ((51, 51),), ((-10 ** 30, 10 ** 30),)):
            self.assertIs(is_domain(value), False)

    def test_other_kinds(self):
        for value in (None, True, 3, "", "ab", [], [(1, 2)], ([1, 2],), (1, 2), ((1, 2, 3),), ((1,),), ((),), (None,),
                      ((True, 2),), ((0, True),), ((False, False),), (("1", "2"),), ((1, None),), ((1, 2), None),
                      (((1, 2),),), "12", (("a", "b"),)):
            with self.subTest(value):
                self.assertIs(is_domain(value), False)


if __name__ == "__main__":
    unittest.main()
