"""Point 5, and hornbook/order.py."""

import collections
import itertools
import unittest

from helper import DEPTH, a, chain, f, i, items, left_chain, random_term, right_chain, seeded, v
from hornbook.order import compare, sort_terms

# In ascending order, with one variable only, so that the order of any two is decided.
ASCENDING = [
    v(4), i(1 - 10 ** 40), i(-2), i(-1), i(0), i(9), i(10), i(10 ** 40 - 1),
    a(" "), a("B"), a("[]"), a("a"), a("aa"), a("b"),
    f("a", v(4)), f("a", i(5)), f("a", a("z")), f("a", f("a", i(1))), f("b", v(4)), f("z", i(-1)),
    f(".", i(1), a("[]")), f("a", v(4), i(2)), f("a", i(1), i(2)), f("a", i(1), i(3)), f("a", i(2), i(0)),
    f("Z", i(0), i(0), i(0)), f("a", *[i(0)] * 8), f("b", *[i(0)] * 8),
]


def rank(node):
    return 1 if isinstance(node, int) else 0 if node[0] == "v" else 2


def arguments(term):
    """The arguments of a term, found by counting."""
    found = []
    rest = term[1:]
    while rest:
        end = missing = 1
        missing += (rest[0][2] if rank(rest[0]) == 2 else 0) - 1
        while missing:
            missing += (rest[end][2] if rank(rest[end]) == 2 else 0) - 1
            end += 1
        found.append(rest[:end])
        rest = rest[end:]
    return found


def told(left, right):
    """The order as the words of point 5 tell it."""
    one, other = left[0], right[0]
    if rank(one) != rank(other):
        return -1 if rank(one) < rank(other) else 1
    if rank(one) == 0:
        return 0 if one == other else None
    if rank(one) == 1:
        return (one > other) - (one < other)
    if one != other:
        return -1 if (one[2], one[1]) < (other[2], other[1]) else 1
    for part, mate in zip(arguments(left), arguments(right)):
        if told(part, mate) != 0:
            return told(part, mate)
    return 0


class Compare(unittest.TestCase):

    def test_each_pair(self):
        for (p, left), (q, right) in itertools.product(enumerate(ASCENDING), enumerate(ASCENDING)):
            with self.subTest((left, right)):
                self.assertEqual(compare(left, right), (p > q) - (p < q))

    def test_arity_comes_before_name(self):
        self.assertEqual(compare(f("z", i(1)), f("a", i(1), i(1))), -1)
        self.assertEqual(compare(f("a", i(1), i(1)), f("z", i(1))), 1)
        self.assertEqual(compare(a("z"), f("a", i(1))), -1)

    def test_variables(self):
        self.assertIsNone(compare(v(0), v(1)))
        self.assertIsNone(compare(v(1), v(0)))
        self.assertEqual(compare(v(1), v(1)), 0)
        for term in (i(-5), a("a"), f("a", v(1))):
            self.assertEqual(compare(v(1), term), -1)
            self.assertEqual(compare(term, v(1)), 1)

    def test_examples_of_the_document(self):
        self.assertEqual(compare(f("f", v(0)), f("g", v(1))), -1)
        self.assertEqual(compare(f("g", v(1)), f("f", v(0))), 1)
        self.assertIsNone(compare(f("f", v(0), i(1)), f("f", v(1), i(2))))

    def test_undecided_only_at_the_first_difference(self):
        self.assertEqual(compare(f("f", i(1), v(0)), f("f", i(2), v(1))), -1)
        self.assertEqual(compare(f("f", i(2), v(0)), f("f", i(1), v(1))), 1)
        self.assertIsNone(compare(f("f", v(1), i(1)), f("f", v(0), i(1))))
        self.assertIsNone(compare(f("f", f("g", v(0)), i(1)), f("f", f("g", v(1)), i(2))))
        self.assertEqual(compare(f("f", v(0), i(1)), f("f", v(0), i(2))), -1)
        self.assertEqual(compare(f("f", v(0), v(1), v(2)), f("f", v(0), v(1), v(2))), 0)
        self.assertIsNone(compare(f("f", v(0), v(1)), f("f", v(0), v(2))))

    def test_a_variable_before_a_later_difference(self):
        self.assertEqual(compare(f("f", v(0), i(9)), f("f", i(1), i(2))), -1)
        self.assertEqual(compare(f("f", a("a"), v(0)), f("f", v(7), v(1))), 1)

    def test_against_the_words(self):
        source = seeded(5)
        for _ in range(3000):
            left = random_term(source, source.randrange(1, 7), ["a", "b"], numbers=2)
            right = random_term(source, source.randrange(1, 7), ["a", "b"], numbers=2)
            with self.subTest((left, right)):
                self.assertEqual(compare(left, right), told(left, right))

    def test_deep_terms(self):
        for make in (lambda last: chain("s", DEPTH, last), lambda last: left_chain("-", 499, last),
                     lambda last: right_chain("-", 499, last)):
            self.assertEqual(compare(make(i(1)), make(i(1))), 0)
            self.assertEqual(compare(make(i(1)), make(i(2))), -1)
            self.assertEqual(compare(make(a("a")), make(i(2))), 1)
            self.assertIsNone(compare(make(v(1)), make(v(2))))


class Sort(unittest.TestCase):

    def test_sorts(self):
        self.assertEqual(sort_terms(ASCENDING[::-1]), ASCENDING)
        source = seeded(6)
        for _ in range(20):
            shuffled = list(ASCENDING)
            source.shuffle(shuffled)
            self.assertEqual(sort_terms(shuffled), ASCENDING)

    def test_no_and_one_term(self):
        self.assertEqual(sort_terms([]), [])
        self.assertEqual(sort_terms([], unique=True), [])
        self.assertEqual(sort_terms([v(3)]), [v(3)])
        self.assertEqual(sort_terms([v(3)], unique=True), [v(3)])

    def test_equal_terms(self):
        terms = [i(2), a("a"), i(1), i(2), v(0), a("a"), v(0), i(2)]
        self.assertEqual(sort_terms(terms), [v(0), v(0), i(1), i(2), i(2), i(2), a("a"), a("a")])
        self.assertEqual(sort_terms(terms, unique=False), sort_terms(terms))
        self.assertEqual(sort_terms(terms, unique=True), [v(0), i(1), i(2), a("a")])

    def test_undecided(self):
        self.assertIsNone(sort_terms([v(0), v(1)]))
        self.assertIsNone(sort_terms([v(1), i(3), v(0)]))
        self.assertIsNone(sort_terms([v(0), v(1)], unique=True))
        self.assertIsNone(sort_terms([f("f", v(0), i(1)), f("f", v(1), i(2))]))
        self.assertEqual(sort_terms([f("g", v(1)), f("f", v(0))]), [f("f", v(0)), f("g", v(1))])

    def test_undecided_terms_that_do_not_stand_side_by_side(self):
        terms = [f("f", v(0), i(1)), f("f", v(0), i(2)), f("f", v(1), i(1)), f("f", v(0), i(3))]
        for order in itertools.permutations(terms):
            self.assertIsNone(sort_terms(list(order)))
            self.assertIsNone(sort_terms(list(order), unique=True))
        apart = [v(0)] + [i(k) for k in range(20)] + [v(1)] + [a("a")] * 20
        self.assertIsNone(sort_terms(apart))
        self.assertIsNone(sort_terms(apart[::-1]))

    def test_against_all_pairs(self):
        source = seeded(7)
        for _ in range(1500):
            terms = [random_term(source, 4, ["a", "b"], numbers=2) for _ in range(source.randrange(6))]
            orders = [compare(x, y) for x, y in itertools.combinations(terms, 2)]
            found = sort_terms(terms)
            if None in orders:
                self.assertIsNone(found)
                self.assertIsNone(sort_terms(terms, unique=True))
                continue
            self.assertEqual(collections.Counter(found), collections.Counter(terms))
            self.assertTrue(all(compare(x, y) < 1 for x, y in zip(found, found[1:])))
            single = sort_terms(terms, unique=True)
            self.assertTrue(all(compare(x, y) == -1 for x, y in zip(single, single[1:])))
            self.assertEqual(set(single), set(terms))

    def test_arguments_and_results(self):
        terms = [i(2), i(1), i(2)]
        found = sort_terms(terms)
        sort_terms(terms, unique=True)
        self.assertEqual(terms, [i(2), i(1), i(2)])
        found.append(i(0))
        self.assertEqual(sort_terms(terms), [i(1), i(2), i(2)])
        one = [i(1)]
        sort_terms(one).append(i(0))
        self.assertEqual(one, [i(1)])

    def test_deep_terms(self):
        deep = [chain("s", DEPTH, i(k)) for k in (3, 1, 2, 1)]
        self.assertEqual(sort_terms(deep), [deep[1], deep[3], deep[2], deep[0]])
        self.assertEqual(sort_terms(deep, unique=True), [deep[1], deep[2], deep[0]])
        self.assertIsNone(sort_terms([chain("s", DEPTH, v(0)), items(i(1)), chain("s", DEPTH, v(1))]))


if __name__ == "__main__":
    unittest.main()
