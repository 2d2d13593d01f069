"""Point 103, and hornbook/posing.py."""

import unittest

from helper import a, chain, f, i, left_chain, read, seeded, v
from hornbook.posing import pose


def numbered(*texts):
    """Terms of which the variables V0, V1, .. V13 have these numbers, and other ones greater ones."""
    names = [f"V{number}" for number in range(14)]
    front = f"t(t({', '.join(names[:7])}), t({', '.join(names[7:])}), "
    return [read(f"{front}({text}))")[17:] for text in texts]


def fault(term):
    return f("type_error", a("constraint"), term)


DOMAINS = ["V0 in 0 .. 9", "V1 in 0 .. 9", "V2 in 0 .. 9"]


class Pose(unittest.TestCase):

    def check(self, texts, constraints):
        """Constraints over V0 to V2, whose intervals stand in front."""
        found = pose(numbered(*DOMAINS, *texts))
        self.assertEqual(found, ([0, 1, 2], [((0, 9),)] * 3, constraints))

    def test_the_example(self):
        term = [f("in", v(4), f("..", i(1), i(3))), f("in", v(2), f("..", i(0), i(9))),
                f("<", f("+", v(4), f("*", i(2), v(2))), i(7))]
        self.assertEqual(pose(term), ([4, 2], [((1, 3),), ((0, 9),)], [("le", ((1, 0), (2, 1)), 6)]))
        self.assertIs(type(pose(term)), tuple)

    def test_nothing(self):
        self.assertEqual(pose([]), ([], [], []))

    def test_intervals(self):
        self.assertEqual(pose(numbered("V3 in -50 .. 50", "V1 in 7 .. 7", "V2 in 3 .. 2")),
                         ([3, 1, 2], [((-50, 50),), ((7, 7),), ()], []))

    def test_each_comparison(self):
        self.check(["V0 < V1"], [("le", ((1, 0), (-1, 1)), -1)])
        self.check(["V0 =< V1"], [("le", ((1, 0), (-1, 1)), 0)])
        self.check(["V0 =:= V1"], [("eq", ((1, 0), (-1, 1)), 0)])
        self.check(["V0 \\= V1"], [("ne", ((1, 0), (-1, 1)), 0)])
        self.check(["V0 < 5", "V1 =:= 5", "5 \\= V1", "5 =< V0"], [
            ("le", ((1, 0),), 4), ("eq", ((1, 1),), 5), ("ne", ((-1, 1),), -5), ("le", ((-1, 0),), -5)])

    def test_each_expression(self):
        self.check(["V0 + V1 =< 7"], [("le", ((1, 0), (1, 1)), 7)])
        self.check(["V0 - V1 =< 7"], [("le", ((1, 0), (-1, 1)), 7)])
        self.check(["3 * V0 =< 7"], [("le", ((3, 0),), 7)])
        self.check(["-3 * V0 =< -7"], [("le", ((-3, 0),), -7)])
        self.check(["2 * (V0 + 3 * (V1 - 4)) =< 7"], [("le", ((2, 0), (6, 1)), 31)])
        self.check(["2 * 3 =< 7", "2 * (-3) =< 7"], [("le", (), 1), ("le", (), 13)])
        self.check(["V0 - (V1 - V2) =:= 1 - V0"], [("eq", ((2, 0), (-1, 1), (1, 2)), 1)])
        self.check(["V0 - (V1 - (V2 - 5)) \\= 0"], [("ne", ((1, 0), (-1, 1), (1, 2)), 5)])
        self.check(["1 + 2 < 3 + 4", "0 =:= 1"], [("le", (), 3), ("eq", (), 1)])
        self.check(["2 * (3 * (-1 * (V2 + 1))) =< 0"], [("le", ((-6, 2),), 6)])
        self.check(["3 * 4 - 2 * V0 =:= 0"], [("eq", ((-2, 0),), -12)])
        self.check(["0 * V0 + V1 =< 3"], [("le", ((1, 1),), 3)])

    def test_factors_are_added(self):
        self.check(["V0 + V1 + V0 =< V1 - V0"], [("le", ((3, 0),), 0)])
        self.check(["V0 =< V0"], [("le", (), 0)])
        self.check(["V0 - V0 < 0"], [("le", (), -1)])
        self.check(["20 * V0 - 19 * V0 \\= V1 - V1"], [("ne", ((1, 0),), 0)])
        self.check(["21 * V0 - V0 =< 0"], [("le", ((20, 0),), 0)])

    def test_pairs_are_ordered_by_the_variable(self):
        self.check(["V2 + V0 + V1 =< 5"], [("le", ((1, 0), (1, 1), (1, 2)), 5)])
        found = pose(numbered("V2 in 0 .. 1", "V0 in 0 .. 1", "V1 in 0 .. 1", "V0 + 2 * V1 - V2 =< 5"))
        self.assertEqual(found, ([2, 0, 1], [((0, 1),)] * 3, [("le", ((-1, 0), (1, 1), (2, 2)), 5)]))

    def test_times(self):
        self.check(["V0 =:= V1 * V2"], [("times", 1, 2, 0)])
        self.check(["V0 =:= V0 * V0", "V1 =:= V0 * V0"], [("times", 0, 0, 0), ("times", 0, 0, 1)])
        self.check(["V0 =:= 2 * V1", "V0 =:= V1 + V2", "V0 =:= V1 - V2"], [
            ("eq", ((1, 0), (-2, 1)), 0), ("eq", ((1, 0), (-1, 1), (-1, 2)), 0), ("eq", ((1, 0), (-1, 1), (1, 2)), 0)])

    def test_distinct(self):
        self.check(["distinct([V2, V0])", "distinct([V1])"], [("distinct", (2, 0)), ("distinct", (1,))])

    def test_intervals_anywhere(self):
        found = pose(numbered("V0 < V1", "V1 in 1 .. 2", "distinct([V0, V1])", "V0 in 3 .. 4"))
        expected = [("le", ((-1, 0), (1, 1)), -1), ("distinct", (1, 0))]
        self.assertEqual(found, ([1, 0], [((1, 2),), ((3, 4),)], expected))

    def test_terms_of_no_form(self):
        for text in ("X", "7", "foo", "V0", "'>'(V0, V1)", "V0 = V1", "V0 is V1", "V0 == V1", "V0 * 2 =< 3",
                     "V0 * V1 =< 3", "V0 * V1 =:= V2", "3 =:= V0 * V1", "V0 =:= 1 + V1 * V2", "- V0 =< 3",
                     "V0 // 2 =< 3", "V0 + a =< 3", "V0 =< f(1)", "V0 mod 2 =:= 1", "V0 =< V1 * V2",
                     "(1 + 2) * V0 =< 3", "V0 =< [1]", "a =< 3", "3 =< a", "V0 in 1", "V0 in 1 .. a", "V0 in V1 .. 2",
                     "V0 in 1 .. V1", "3 in 1 .. 2", "a in 1 .. 2", "V0 in 1 + 2", "V0 in (1 + 1) .. 3",
                     "V0 in [1, 2]", "V0 in f(1, 2)", "distinct(V0)", "distinct([V0, V0])", "distinct([V0 | V1])",
                     "distinct([V0, 1])", "distinct([f(V0)])", "distinct(a)", "distinct([V0], V1)", "distinct",
                     "V0 = 1 .. 2", "V0 =:= 1 .. 2", "V0 =:= V1 * 2", "V0 in V1 * V2", "V0 in 1 .. f(2)",
                     "V0 in f(1) .. 2", "f(V0) in 1 .. 2", "V0 =:= V1 * f(V2)", "V0 =:= f(V1) * V2",
                     "f(V0) =:= V1 * V2", "in(V0)", "in", "..", "in(V0, '..')", "V0 =:= '*'", "V0 =:= '..'",
                     "V0 < V1, V1 < V2", "[V0 < V1]", "V0 < V1 + X * 3", "':'(a, b)"):
            with self.subTest(text):
                terms = numbered(*DOMAINS, "V0 < V1", text, "V3 < V0")
                self.assertEqual(pose(terms), fault(terms[4]))

    def test_the_first_term_of_no_form_comes_before_other_faults(self):
        terms = numbered("V0 < V1", "V0 in 0 .. 99", "foo", "bar")
        self.assertEqual(pose(terms), fault(a("foo")))

    def test_variables_without_an_interval(self):
        for text in ("V3 < V0", "V0 - V3 =:= V0", "0 * V3 =< V0", "V3 - V3 \\= 1", "V0 =:= V1 * V3", "V3 =:= V1 * V1",
                     "V0 =:= V3 * V1", "distinct([V0, V3])"):
            with self.subTest(text):
                terms = numbered(*DOMAINS, "V0 < V1", text, "V4 < V0")
                self.assertEqual(pose(terms), fault(terms[4]))

    def test_variables_with_two_intervals(self):
        terms = numbered("V0 in 0 .. 1", "V1 in 0 .. 1", "V0 < V1", "V1 in 0 .. 1")
        self.assertEqual(pose(terms), fault(terms[1]))
        terms = numbered("V1 < V0", "V0 in 0 .. 1", "V1 in 0 .. 1", "V0 in 0 .. 1")
        self.assertEqual(pose(terms), fault(terms[0]))
        terms = numbered("V0 in 0 .. 1", "V0 in 0 .. 1")
        self.assertEqual(pose(terms), fault(terms[0]))

    def test_ends_out_of_bounds(self):
        for text in ("V3 in -51 .. 0", "V3 in 0 .. 51", "V3 in 51 .. 0", "V3 in 0 .. -51", "V3 in -9999 .. 9999"):
            terms = numbered(*DOMAINS, text, "V4 < V0")
            self.assertEqual(pose(terms), fault(terms[3]))
        # A constraint on such a variable is not wrong for this reason.
        terms = numbered("V0 < 5", "V0 in 0 .. 51")
        self.assertEqual(pose(terms), fault(terms[1]))

    def test_factors_and_bounds(self):
        for text, right in (("20 * V0 =< 3", True), ("21 * V0 =< 3", False), ("-20 * V0 =< 3", True),
                            ("-21 * V0 =< 3", False), ("20 * V0 + V0 =< 3", False), ("21 * V0 - V0 =< 3", True),
                            ("5 * (5 * V0) =< 3", False), ("V0 =< 10000", True), ("V0 =< 10001", False),
                            ("V0 < 10001", True), ("V0 < 10002", False), ("V0 =< -10000", True), ("V0 < -9999", True),
                            ("V0 < -10000", False), ("V0 =:= 10001", False), ("V0 \\= -10001", False),
                            ("V0 + 9 =< -9991", True), ("V0 + 9 =< -9992", False),
                            ("9999 * 9999 =< V0 + 9999 * 9999", True),
                            ("V0 - 99999 =< -99990", True)):
            with self.subTest(text):
                terms = numbered(*DOMAINS, text, "V3 < V0")
                self.assertEqual(pose(terms), fault(terms[4] if right else terms[3]))

    def test_6_and_7_pairs(self):
        ends = [f"V{number} in 0 .. 1" for number in range(7)]
        six = " + ".join(f"V{number}" for number in range(6))
        found = pose(numbered(*ends, six + " =< 3"))
        self.assertEqual(found[2], [("le", tuple((1, number) for number in range(6)), 3)])
        terms = numbered(*ends, six + " =< V6", "V9 < V0")
        self.assertEqual(pose(terms), fault(terms[7]))
        found = pose(numbered(*ends, six + " + V6 - V0 =< 3"))
        self.assertEqual(found[2], [("le", tuple((1, number) for number in range(1, 7)), 3)])

    def test_12_variables(self):
        ends = [f"V{number} in 0 .. 1" for number in range(13)]
        found = pose(numbered(*ends[:12], "distinct([V0, V11])"))
        self.assertEqual(found, (list(range(12)), [((0, 1),)] * 12, [("distinct", (0, 11))]))
        terms = numbered(*ends)
        self.assertEqual(pose(terms), fault(terms[12]))
        for text in ("V12 < 3", "0 * V12 < 3", "V12 - V12 < 3", "V0 =:= V12 * V0", "distinct([V12])"):
            terms = numbered("V0 < 3", text, *ends)
            self.assertEqual(pose(terms), fault(terms[1]))
        terms = numbered("V12 in 0 .. 1", "V0 < V12", *ends[:12])
        self.assertEqual(pose(terms), fault(terms[13]))

    def test_distinct_with_12_and_13_variables(self):
        ends = [f"V{number} in 0 .. 1" for number in range(13)]
        every = ", ".join(f"V{number}" for number in range(12))
        self.assertEqual(pose(numbered(*ends[:12], f"distinct([{every}])"))[2], [("distinct", tuple(range(12)))])
        terms = numbered(f"distinct([{every}, V12])", *ends)
        self.assertEqual(pose(terms), fault(terms[0]))
        terms = numbered(*DOMAINS, "distinct([])")
        self.assertEqual(pose(terms), fault(terms[3]))

    def test_deep_terms(self):
        begin = f("in", v(0), f("..", i(0), i(1)))
        left = (("f", "=<", 2),)
        for deep, expected in (
                ((("f", "-", 2), 1) * 400 + v(0), ("le", ((1, 0),), 0)),
                ((("f", "+", 2),) * 400 + v(0) + (1,) * 400, ("le", ((1, 0),), -400)),
                ((("f", "*", 2), -1) * 401 + v(0), ("le", ((-1, 0),), 0))):
            self.assertEqual(pose([begin, left + deep + i(0)]), ([0], [((0, 1),)], [expected]))
        for term in (chain("s", 999, v(0)), left_chain("<", 400, v(0)), f("distinct", left_chain(".", 400, v(0)))):
            self.assertEqual(pose([begin, term]), fault(term))

    def test_the_terms_are_not_changed(self):
        terms = numbered(*DOMAINS, "V0 < V1")
        before = list(terms)
        pose(terms)[0].append("more")
        self.assertEqual(terms, before)
        self.assertEqual(pose(terms)[0], [0, 1, 2])

    def test_random_sums(self):
        source = seeded(1030)

        def expression(depth):
            kind = source.randrange(5) if depth else source.randrange(2)
            if kind == 0:
                value = source.randrange(-3, 4)
                return i(value), lambda chosen: value
            if kind == 1:
                number = source.randrange(3)
                return v(number), lambda chosen: chosen[number]
            left, one = expression(depth - 1)
            if kind == 2:
                value = source.randrange(-2, 3)
                return f("*", i(value), left), lambda chosen: value * one(chosen)
            right, other = expression(depth - 1)
            if kind == 3:
                return f("+", left, right), lambda chosen: one(chosen) + other(chosen)
            return f("-", left, right), lambda chosen: one(chosen) - other(chosen)

        for _ in range(300):
            left, one = expression(3)
            right, other = expression(3)
            found = pose([*numbered(*DOMAINS), f("=<", left, right)])
            if isinstance(found[0], list):
                kind, sums, bound = found[2][0]
                self.assertEqual(kind, "le")
                self.assertEqual([variable for _, variable in sums], sorted({variable for _, variable in sums}))
                for _ in range(5):
                    chosen = [source.randrange(10) for _ in range(3)]
                    total = sum(factor * chosen[variable] for factor, variable in sums)
                    self.assertEqual(total - bound, one(chosen) - other(chosen))
            else:
                self.assertEqual(found, fault(f("=<", left, right)))


if __name__ == "__main__":
    unittest.main()
