"""What point 28 says of expressions, and hornbook/arithmetic.py."""

import unittest

from helper import DEPTH, a, chain, f, i, items, left_chain, right_chain, seeded, v
from hornbook.arithmetic import evaluate

BIG = 10 ** 40
INSTANTIATION = a("instantiation_error")
ZERO = f("evaluation_error", a("zero_divisor"))
OVERFLOW = f("evaluation_error", a("overflow"))


def evaluable(name, arity):
    return f("type_error", a("evaluable"), f("/", a(name), i(arity)))


class Values(unittest.TestCase):

    def values(self, name, cases):
        for left, right, value in cases:
            with self.subTest((left, name, right)):
                found = evaluate(f(name, i(left), i(right)))
                self.assertEqual(found, value)
                self.assertIs(type(found), int)

    def test_integers(self):
        for value in (0, 1, -7, BIG - 1, 1 - BIG):
            self.assertEqual(evaluate(i(value)), value)

    def test_sums_and_products(self):
        self.values("+", [(1, 2, 3), (-1, -2, -3), (5, -7, -2), (0, 0, 0)])
        self.values("-", [(1, 2, -1), (-1, -2, 1), (5, -7, 12), (2, 1, 1)])
        self.values("*", [(3, 4, 12), (-3, 4, -12), (-3, -4, 12), (0, -4, 0)])

    def test_division_is_rounded_down(self):
        self.values("//", [(7, 2, 3), (-7, 2, -4), (7, -2, -4), (-7, -2, 3)])
        self.values("//", [(6, 2, 3), (-6, 2, -3), (0, 5, 0), (1, -9, -1)])

    def test_mod_has_the_sign_of_the_divisor(self):
        self.values("mod", [(7, 3, 1), (-7, 3, 2), (7, -3, -2), (-7, -3, -1)])
        self.values("mod", [(6, 3, 0), (-6, -3, 0), (1, 5, 1), (-1, 5, 4)])

    def test_negation(self):
        for value in (0, 3, -3, BIG - 1, 1 - BIG):
            self.assertEqual(evaluate(f("-", i(value))), -value)
        self.assertEqual(evaluate(f("-", f("-", i(4)))), 4)

    def test_nested(self):
        term = f("+", f("*", i(2), i(3)), f("-", f("//", i(9), i(2)), f("mod", f("-", i(7)), i(4))))
        self.assertEqual(evaluate(term), 2 * 3 + (9 // 2 - (-7) % 4))
        self.assertEqual(evaluate(f("-", f("-", i(9), i(4)), i(3))), 2)
        self.assertEqual(evaluate(f("-", i(9), f("-", i(4), i(3)))), 8)

    def test_random_expressions(self):
        source = seeded(31)

        def expression(size):
            if size == 0:
                value = source.randrange(-9, 10)
                return i(value), value
            left, one = expression(source.randrange(size))
            name = source.choice(["+", "-", "*", "//", "mod", "neg"])
            if name == "neg":
                return f("-", left), -one
            right, other = expression(source.randrange(size))
            if name in ("//", "mod") and other == 0:
                name = "+"
            values = {"+": one + other, "-": one - other, "*": one * other}
            if other != 0:
                values.update({"//": one // other, "mod": one % other})
            return f(name, left, right), values[name]

        for _ in range(500):
            term, value = expression(5)
            self.assertEqual(evaluate(term), value)


class Errors(unittest.TestCase):

    def test_variables(self):
        for term in (v(0), f("+", v(0), i(1)), f("+", i(1), v(0)), f("-", v(3)), f("*", i(1), f("-", v(3)))):
            self.assertEqual(evaluate(term), INSTANTIATION)

    def test_other_symbols(self):
        for name, arity in (
                ("a", 0), ("[]", 0), ("+", 0), ("-", 0), ("foo", 1), ("+", 1), ("*", 1), ("mod", 1), ("/", 2),
                ("^", 2), ("rem", 2), (",", 2), ("-", 3), ("+", 3), ("f", 8), (".", 2), ("abs", 1), ("..", 2)):
            self.assertEqual(evaluate(f(name, *[i(1)] * arity)), evaluable(name, arity))
            self.assertEqual(evaluate(f("+", i(1), f(name, *[i(1)] * arity))), evaluable(name, arity))
        self.assertEqual(evaluate(items(i(1))), evaluable(".", 2))

    def test_other_symbols_before_their_arguments(self):
        for wrong in (v(0), a("b"), f("//", i(1), i(0)), f("*", i(BIG - 1), i(2))):
            self.assertEqual(evaluate(f("foo", wrong)), evaluable("foo", 1))
            self.assertEqual(evaluate(f("foo", wrong, wrong)), evaluable("foo", 2))

    def test_zero_divisors(self):
        for name in ("//", "mod"):
            for left in (0, 1, -1, BIG - 1):
                self.assertEqual(evaluate(f(name, i(left), i(0))), ZERO)
            self.assertEqual(evaluate(f(name, i(1), f("-", i(2), i(2)))), ZERO)
            self.assertEqual(evaluate(f(name, i(0), i(1))), 0)

    def test_overflow(self):
        half = BIG // 2
        self.assertEqual(evaluate(f("+", i(BIG - 1), i(0))), BIG - 1)
        self.assertEqual(evaluate(f("+", i(BIG - 1), i(1))), OVERFLOW)
        self.assertEqual(evaluate(f("+", i(half), i(half - 1))), BIG - 1)
        self.assertEqual(evaluate(f("+", i(half), i(half))), OVERFLOW)
        self.assertEqual(evaluate(f("-", i(1 - BIG), i(1))), OVERFLOW)
        self.assertEqual(evaluate(f("-", i(2 - BIG), i(1))), 1 - BIG)
        self.assertEqual(evaluate(f("*", i(10 ** 20), i(10 ** 20))), OVERFLOW)
        self.assertEqual(evaluate(f("*", i(-10 ** 20), i(10 ** 20))), OVERFLOW)
        self.assertEqual(evaluate(f("*", i(10 ** 20), i(10 ** 19))), 10 ** 39)
        self.assertEqual(evaluate(f("*", i(-10 ** 20), i(10 ** 20 - 1))), -10 ** 20 * (10 ** 20 - 1))
        self.assertEqual(evaluate(f("-", f("+", i(BIG - 1), i(1)), i(5))), OVERFLOW)
        self.assertEqual(evaluate(f("//", i(BIG - 1), i(-1))), 1 - BIG)

    def test_the_first_error_from_left_to_right(self):
        zero, over = f("mod", i(1), i(0)), f("*", i(BIG - 1), i(BIG - 1))
        wrong = [(v(0), INSTANTIATION), (a("a"), evaluable("a", 0)), (zero, ZERO), (over, OVERFLOW),
                 (f("g", v(0)), evaluable("g", 1))]
        for left, first in wrong:
            for right, _ in wrong:
                for name in ("+", "-", "*", "//", "mod"):
                    self.assertEqual(evaluate(f(name, left, right)), first)
                    self.assertEqual(evaluate(f("+", f("-", left), right)), first)
            self.assertEqual(evaluate(f("//", left, i(0))), first)
            self.assertEqual(evaluate(f("mod", i(0), left)), first)
            self.assertEqual(evaluate(f("+", i(1), f("*", i(2), left))), first)

    def test_arguments_come_first(self):
        self.assertEqual(evaluate(f("//", v(0), i(0))), INSTANTIATION)
        self.assertEqual(evaluate(f("//", f("*", i(BIG - 1), i(2)), i(0))), OVERFLOW)
        self.assertEqual(evaluate(f("mod", a("a"), i(0))), evaluable("a", 0))
        self.assertEqual(evaluate(f("+", f("//", i(1), i(0)), v(0))), ZERO)


class Deep(unittest.TestCase):

    def test_deep_terms(self):
        self.assertEqual(evaluate(chain("-", DEPTH, i(3))), -3)
        self.assertEqual(evaluate(chain("-", DEPTH - 1, i(3))), 3)
        self.assertEqual(evaluate((("f", "+", 2),) * 499 + i(1) * 500), 500)
        self.assertEqual(evaluate((("f", "+", 2), 1) * 499 + i(1)), 500)
        self.assertEqual(evaluate((("f", "-", 2), 1) * 499 + i(1)), 0)
        self.assertEqual(evaluate(chain("-", DEPTH, v(0))), INSTANTIATION)
        self.assertEqual(evaluate(left_chain("*", 499, i(1))), evaluable("x", 0))
        self.assertEqual(evaluate(right_chain("*", 499, v(1))), evaluable("x", 0))
        self.assertEqual(evaluate(chain("s", DEPTH, v(0))), evaluable("s", 1))


if __name__ == "__main__":
    unittest.main()
