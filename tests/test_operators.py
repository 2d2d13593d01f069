"""Points 13 to 15, and hornbook/operators.py."""

import unittest

from hornbook.errors import BadOperator
from hornbook.operators import initial_table, with_operator

INFIX = {
    ":-": (1200, "xfx"), ";": (1100, "xfy"), "->": (1050, "xfy"), ",": (1000, "xfy"),
    "=": (700, "xfx"), "\\=": (700, "xfx"), "==": (700, "xfx"), "\\==": (700, "xfx"), "@<": (700, "xfx"),
    "is": (700, "xfx"), "=:=": (700, "xfx"), "<": (700, "xfx"), "=<": (700, "xfx"), "=..": (700, "xfx"),
    "in": (700, "xfx"), "..": (450, "xfx"), "+": (500, "yfx"), "-": (500, "yfx"), "*": (400, "yfx"),
    "//": (400, "yfx"), "mod": (400, "yfx"), "^": (200, "xfy"),
}
PREFIX = {":-": (1200, "fx"), "\\+": (900, "fy"), "-": (200, "fy")}
EXPECTED = {**{(name, "infix"): pair for name, pair in INFIX.items()},
            **{(name, "prefix"): pair for name, pair in PREFIX.items()}}


class Initial(unittest.TestCase):

    def test_table(self):
        self.assertEqual(initial_table(), EXPECTED)

    def test_changes_of_a_result_change_no_later_one(self):
        table = initial_table()
        table[("foo", "infix")] = (700, "xfx")
        del table[("=", "infix")]
        self.assertEqual(initial_table(), EXPECTED)


class WithOperator(unittest.TestCase):

    def test_adding(self):
        for form, place in (("fx", "prefix"), ("fy", "prefix"), ("xfx", "infix"), ("xfy", "infix"), ("yfx", "infix")):
            for priority in (1, 2, 999, 1000, 1001, 1199, 1200):
                for name in ("foo", "===", "Foo bar", "!", "it's", "x" * 40, "."):
                    table = with_operator(initial_table(), priority, form, name)
                    self.assertEqual(table, {**EXPECTED, (name, place): (priority, form)})

    def test_changing(self):
        self.assertEqual(
            with_operator(initial_table(), 300, "yfx", "="), {**EXPECTED, ("=", "infix"): (300, "yfx")})
        self.assertEqual(
            with_operator(initial_table(), 300, "fx", "-"), {**EXPECTED, ("-", "prefix"): (300, "fx")})
        self.assertEqual(
            with_operator(initial_table(), 300, "xfx", "\\+"), {**EXPECTED, ("\\+", "infix"): (300, "xfx")})

    def test_removing(self):
        for form, place in (("fx", "prefix"), ("fy", "prefix"), ("xfx", "infix"), ("xfy", "infix"), ("yfx", "infix")):
            expected = {key: pair for key, pair in EXPECTED.items() if key != ("-", place)}
            self.assertEqual(with_operator(initial_table(), 0, form, "-"), expected)
        self.assertEqual(with_operator(initial_table(), 0, "xfx", "nothing"), EXPECTED)
        self.assertEqual(with_operator(initial_table(), 0, "fy", "="), EXPECTED)
        self.assertEqual(with_operator({}, 0, "fy", "="), {})

    def test_an_empty_table(self):
        self.assertEqual(with_operator({}, 200, "fy", "a"), {("a", "prefix"): (200, "fy")})

    def test_the_argument_does_not_change(self):
        table = initial_table()
        with_operator(table, 700, "xfx", "foo")
        with_operator(table, 0, "xfx", "=")
        with_operator(table, 1, "fx", "-")
        self.assertEqual(table, EXPECTED)
        self.assertIsNot(with_operator(table, 0, "xfx", "nothing"), table)
        for wrong in (-1, 1201):
            with self.assertRaises(BadOperator):
                with_operator(table, wrong, "xfx", "=")
        self.assertEqual(table, EXPECTED)

    def test_wrong_priorities(self):
        for priority in (-1, -1200, 1201, 5000, True, False):
            with self.subTest(priority), self.assertRaises(BadOperator):
                with_operator(initial_table(), priority, "xfx", "foo")

    def test_wrong_forms(self):
        for form in ("", "xf", "yf", "yfy", "f", "fxx", "prefix", "infix", "XFX", "xfx "):
            with self.subTest(form):
                with self.assertRaises(BadOperator):
                    with_operator(initial_table(), 700, form, "foo")
                with self.assertRaises(BadOperator):
                    with_operator(initial_table(), 0, form, "foo")

    def test_wrong_names(self):
        for name in (",", "|", "[]", "{}", "", "x" * 41, "a\n", "%", "\u00e9"):
            for form in ("fx", "fy", "xfx", "xfy", "yfx"):
                with self.subTest((name, form)):
                    with self.assertRaises(BadOperator):
                        with_operator(initial_table(), 700, form, name)
                    with self.assertRaises(BadOperator):
                        with_operator(initial_table(), 0, form, name)


if __name__ == "__main__":
    unittest.main()
