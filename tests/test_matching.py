"""Point 102, and hornbook/matching.py."""

import itertools
import unittest

from helper import seeded
from hornbook.domains import domain, values
from hornbook.matching import distinct_values


def can_be_chosen(given):
    """Try all choices."""
    return any(len(set(choice)) == len(choice) for choice in itertools.product(*[values(one) for one in given]))


class DistinctValues(unittest.TestCase):

    def check(self, members, expected):
        given = [domain(row) for row in members]
        before = list(given)
        found = distinct_values(given)
        self.assertIs(type(found), tuple)
        chosen, stuck = found
        self.assertEqual(given, before)
        if expected:
            self.assertIsNone(stuck)
            self.assertIs(type(chosen), list)
            self.assertEqual(len(chosen), len(given))
            self.assertEqual(len(set(chosen)), len(chosen))
            for value, row in zip(chosen, members):
                self.assertIn(value, row)
        else:
            self.assertIsNone(chosen)
            self.assertIs(type(stuck), list)
            self.assertEqual(stuck, sorted(set(stuck)))
            self.assertTrue(all(0 <= at < len(given) for at in stuck))
            self.assertLess(len({value for at in stuck for value in members[at]}), len(stuck))

    def test_no_domains(self):
        self.assertEqual(distinct_values([]), ([], None))

    def test_one_domain(self):
        self.assertEqual(distinct_values([((3, 3),)]), ([3], None))
        self.assertEqual(distinct_values([()]), (None, [0]))
        self.check([[-50, 50]], True)

    def test_empty_domains(self):
        for at in range(4):
            members = [[1, 2, 3]] * 4
            members[at] = []
            self.check(members, False)
        self.check([[], []], False)

    def test_exchanges(self):
        self.check([[1, 2], [1]], True)
        self.check([[1, 2], [1, 2, 3], [1], [3, 4], [3]], False)
        self.check([[1, 2], [2, 3], [3, 4], [4, 5], [1]], True)
        self.check([[1, 2], [2, 3], [3, 4], [4, 5], [5, 6], [1, 7], [1]], True)
        # Each one takes the first value, and all must go on by one at the end.
        for count in range(1, 12):
            members = [[k, k + 1] for k in range(count)] + [[0]]
            self.check(members, True)
            self.check(members + [[count]], False)

    def test_up_to_12_domains(self):
        for count in range(1, 13):
            self.check([list(range(count))] * count, True)
            self.check([list(range(count - 1))] * count, False)
            self.check([list(range(-50, 51))] * count, True)

    def test_those_that_have_too_few_values_stand_anywhere(self):
        for places in itertools.combinations(range(6), 3):
            members = [[1, 2] if at in places else [1, 2, 3, 4, 5, 6, 7] for at in range(6)]
            self.check(members, False)

    def test_random_domains(self):
        source = seeded(102)
        outcomes = {True: 0, False: 0}
        for _ in range(1500):
            count = source.randrange(1, 7)
            members = [[value for value in range(count + 1) if source.random() < 0.4] for _ in range(count)]
            expected = can_be_chosen([domain(row) for row in members])
            outcomes[expected] += 1
            self.check(members, expected)
        self.assertGreater(min(outcomes.values()), 200)


if __name__ == "__main__":
    unittest.main()
