"""Points 3, 4 and 6, and hornbook/terms.py."""

import unittest

from helper import DEPTH, EMPTY, a, chain, f, i, items, left_chain, right_chain, v
from hornbook.errors import BadTerm
from hornbook.terms import (
    are_variants, atom, compound, integer, is_term, list_items, list_term, parts, renumber, variable,
    variables,
)

GOOD_NAMES = ["a", "A", "_", " ", "~", "'", "#", "[]", "a b", "0", ",", "x" * 40, " !\"#$&'()*+,-./"]
BAD_NAMES = ["", "x" * 41, "%", "a%b", "\n", "a\n", "\t", "\x7f", "\x1f", "\u00e9", "a\u20ac", "\x00"]
BIG = 10 ** 40
NOT_TERMS = [
    (), None, True, False, 1, -3, "a", "", [], [1], [("f", "a", 0)], ("f", "a", 0), ("v", 0), (None,),
    ("a",), (True,), (False,), ((),), ([],), (("v",),), (("v", 0, 0),), (("f",),), (("f", "a"),),
    (("f", "a", 0, 0),), (["v", 0],), (["f", "a", 0],), (("v", -1),), (("v", True),), (("v", False),),
    (("v", "0"),), (("v", None),), (("v", (0,)),), (("x", 0),), (("g", "a", 0),), (("f", "a", True), 1),
    (("f", "a", False),), (("f", "a", -1),), (("f", "a", 9),) + (1,) * 9, (("f", "a", "0"),),
    (("f", "a", None),), (("f", 1, 0),), (("f", None, 0),), (("f", ("a",), 0),), (("f", ["a"], 0),),
    (BIG,), (-BIG,), (BIG * 10,),
]


class Making(unittest.TestCase):

    def test_variable(self):
        for number in (0, 1, 7, 10 ** 50):
            self.assertEqual(variable(number), (("v", number),))
        for number in (-1, -100):
            with self.assertRaises(BadTerm):
                variable(number)

    def test_integer(self):
        for value in (0, 1, -1, BIG - 1, 1 - BIG):
            self.assertEqual(integer(value), (value,))
        for value in (BIG, -BIG, BIG + 1, -BIG - 1, BIG * BIG):
            with self.assertRaises(BadTerm):
                integer(value)

    def test_atom(self):
        for name in GOOD_NAMES:
            self.assertEqual(atom(name), (("f", name, 0),))
        for name in BAD_NAMES:
            with self.subTest(name), self.assertRaises(BadTerm):
                atom(name)

    def test_compound(self):
        self.assertEqual(compound("f", v(0), a("a")), (("f", "f", 2), ("v", 0), ("f", "a", 0)))
        self.assertEqual(compound("f", f("g", i(1)), v(3)), (("f", "f", 2), ("f", "g", 1), 1, ("v", 3)))
        for name in GOOD_NAMES:
            self.assertEqual(compound(name, i(1)), (("f", name, 1), 1))
        for name in BAD_NAMES:
            with self.subTest(name), self.assertRaises(BadTerm):
                compound(name, i(1))

    def test_compound_has_1_to_8_arguments(self):
        for arity in range(1, 9):
            self.assertEqual(compound("f", *[i(1)] * arity), (("f", "f", arity),) + (1,) * arity)
        for arity in (0, 9, 10, 30):
            with self.assertRaises(BadTerm):
                compound("f", *[i(1)] * arity)

    def test_compound_of_what_is_no_term(self):
        for wrong in NOT_TERMS + [(1, 1), (("f", "g", 1),), (("f", "g", 1), 1, 1)]:
            with self.subTest(wrong):
                with self.assertRaises(BadTerm):
                    compound("f", wrong)
                with self.assertRaises(BadTerm):
                    compound("f", i(1), wrong, i(2))

    def test_parts_that_are_only_together_a_term(self):
        with self.assertRaises(BadTerm):
            compound("f", (("f", "g", 2), 1), (2, 3))


class IsTerm(unittest.TestCase):

    def test_terms(self):
        terms = [v(0), v(10 ** 60), i(0), i(BIG - 1), i(1 - BIG), a("a"), f("f", v(0), a("a"))]
        terms += [atom_of(name) for name in GOOD_NAMES]
        terms += [(("f", "f", arity),) + (1,) * arity for arity in range(9)]
        terms += [f("f", f("g", v(1), i(2)), f("h", a("b"))), items(i(1), a("b"), tail=v(0))]
        for term in terms:
            with self.subTest(term):
                self.assertIs(is_term(term), True)

    def test_no_terms(self):
        for wrong in NOT_TERMS:
            with self.subTest(wrong):
                self.assertIs(is_term(wrong), False)

    def test_names(self):
        for name in BAD_NAMES:
            with self.subTest(name):
                self.assertIs(is_term((("f", name, 0),)), False)
                self.assertIs(is_term((("f", "f", 1), ("f", name, 0))), False)

    def test_nodes_left_over_or_missing(self):
        whole = f("f", f("g", v(0)), a("b"))
        for end in range(1, len(whole)):
            self.assertIs(is_term(whole[:end]), False)
        for more in (v(0), i(1), a("a"), f("g", i(1)), (("f", "g", 1),), (("f", "g", 2), 1), (("f", "g", 3), 1)):
            for left, right in ((whole, more), (i(1), more), (v(0), more + i(1))):
                self.assertIs(is_term(left + right), False, (left, right))

    def test_wrong_nodes_inside(self):
        for wrong in (True, None, "a", (), [], BIG, ("v", -1), ("f", "a", 9), ("f", "a", -1)):
            self.assertIs(is_term((("f", "f", 2), 1, wrong)), False)
            self.assertIs(is_term((("f", "f", 2), wrong, 1)), False)

    def test_a_list_of_nodes_is_no_term(self):
        self.assertIs(is_term([("f", "f", 1), 1]), False)
        self.assertIs(is_term([1]), False)

    def test_a_deep_value_that_is_no_term(self):
        wrong = 1
        for _ in range(400):
            wrong = (wrong,)
        self.assertIs(is_term(wrong), False)
        self.assertIs(is_term((wrong,)), False)


def atom_of(name):
    return (("f", name, 0),)


class Parts(unittest.TestCase):

    def test_parts(self):
        self.assertEqual(parts(f("f", v(0), f("g", i(1), a("b")), i(-4))), [v(0), f("g", i(1), a("b")), i(-4)])
        self.assertEqual(parts(f("f", *[i(k) for k in range(8)])), [i(k) for k in range(8)])
        for term in (v(0), i(3), a("a")):
            self.assertEqual(parts(term), [])

    def test_result_may_be_changed(self):
        term = f("f", v(0), i(1))
        parts(term).append("more")
        self.assertEqual(parts(term), [v(0), i(1)])
        parts(a("a")).append("more")
        self.assertEqual(parts(a("a")), [])


class Lists(unittest.TestCase):

    def test_list_term(self):
        self.assertEqual(list_term([]), (("f", "[]", 0),))
        self.assertEqual(list_term([i(1)]), (("f", ".", 2), 1, ("f", "[]", 0)))
        self.assertEqual(
            list_term([f("g", v(1)), a("b")]),
            (("f", ".", 2), ("f", "g", 1), ("v", 1), ("f", ".", 2), ("f", "b", 0), ("f", "[]", 0)))

    def test_list_term_with_a_tail(self):
        self.assertEqual(list_term([i(1)], tail=v(0)), (("f", ".", 2), 1, ("v", 0)))
        self.assertEqual(list_term([i(1)], tail=a("a")), (("f", ".", 2), 1, ("f", "a", 0)))
        self.assertEqual(list_term([i(1)], tail=items(i(2), i(3))), items(i(1), i(2), i(3)))
        self.assertEqual(list_term([i(1)], tail=None), items(i(1)))
        self.assertEqual(list_term([i(1), i(2)], tail=EMPTY), items(i(1), i(2)))
        for tail in (v(7), a("a"), i(3), items(i(2)), EMPTY):
            self.assertEqual(list_term([], tail=tail), tail)

    def test_list_items(self):
        self.assertEqual(list_items(EMPTY), [])
        self.assertEqual(list_items(items(f("g", v(1)), items(i(1)), EMPTY)), [f("g", v(1)), items(i(1)), EMPTY])

    def test_no_lists(self):
        wrong = [v(0), i(1), a("a"), a("."), f(".", i(1)), f("f", i(1), EMPTY), f("[]", i(1))]
        wrong += [items(i(1), tail=v(0)), items(i(1), i(2), tail=a("a")), items(i(1), tail=i(2))]
        wrong += [f(".", i(1), EMPTY, EMPTY), items(i(1), tail=f("[]", i(1)))]
        for term in wrong:
            with self.subTest(term):
                self.assertIsNone(list_items(term))

    def test_many_elements(self):
        elements = [i(k) for k in range(499)]
        self.assertEqual(list_term(elements), items(*elements))
        self.assertEqual(list_items(items(*elements)), elements)
        self.assertIsNone(list_items(items(*elements, tail=v(0))))

    def test_results_and_arguments_stay_apart(self):
        term = items(i(1), i(2))
        list_items(term).append("more")
        list_items(EMPTY).append("more")
        self.assertEqual(list_items(term), [i(1), i(2)])
        self.assertEqual(list_items(EMPTY), [])
        elements = [i(1), i(2)]
        list_term(elements)
        list_term(elements, tail=v(0))
        self.assertEqual(elements, [i(1), i(2)])


class Variables(unittest.TestCase):

    def test_variables(self):
        self.assertEqual(variables(f("f", v(5), f("g", v(2), v(5)), v(9), v(2))), [5, 2, 9])
        self.assertEqual(variables(v(3)), [3])
        self.assertEqual(variables(f("f", i(3), a("v"))), [])

    def test_result_may_be_changed(self):
        term = f("f", v(5), v(2))
        variables(term).append(1)
        self.assertEqual(variables(term), [5, 2])

    def test_renumber(self):
        term = f("f", v(5), f("g", v(2), v(5)), i(7), v(0))
        self.assertEqual(renumber(term), f("f", v(0), f("g", v(1), v(0)), i(7), v(2)))
        self.assertEqual(renumber(term, 10), f("f", v(10), f("g", v(11), v(10)), i(7), v(12)))
        self.assertEqual(renumber(term, first=1), f("f", v(1), f("g", v(2), v(1)), i(7), v(3)))
        self.assertEqual(renumber(f("f", v(1), v(0))), f("f", v(0), v(1)))
        self.assertEqual(renumber(f("f", v(1), v(0)), 1), f("f", v(1), v(2)))
        self.assertEqual(renumber(a("a"), 5), a("a"))

    def test_variants(self):
        left = f("f", v(0), v(1), v(0))
        for right in (left, f("f", v(1), v(0), v(1)), f("f", v(7), v(3), v(7))):
            self.assertIs(are_variants(left, right), True)
            self.assertIs(are_variants(right, left), True)
        wrong = [f("f", v(0), v(1), v(1)), f("f", v(0), v(0), v(0)), f("f", v(0), i(1), v(0)), v(0)]
        wrong += [f("g", v(0), v(1), v(0)), f("f", v(0), v(1), v(2))]
        for right in wrong:
            self.assertIs(are_variants(left, right), False)
            self.assertIs(are_variants(right, left), False)

    def test_variants_of_other_kinds(self):
        self.assertIs(are_variants(v(0), v(9)), True)
        self.assertIs(are_variants(v(0), i(0)), False)
        self.assertIs(are_variants(i(1), i(1)), True)
        self.assertIs(are_variants(i(1), i(2)), False)
        self.assertIs(are_variants(a("a"), a("b")), False)


class Deep(unittest.TestCase):

    def test_deep_terms(self):
        for term in (chain("s", DEPTH, v(3)), right_chain(".", 499, v(3)), left_chain("-", 499, v(3))):
            self.assertIs(is_term(term), True)
            self.assertIs(is_term(term + term), False)
            self.assertIs(is_term(term[:-1]), False)
            self.assertEqual(compound("f", term, term), f("f", term, term))
            self.assertEqual(parts(f("f", term, i(1))), [term, i(1)])
            self.assertEqual(variables(term), [3])
            self.assertEqual(variables(renumber(term, 8)), [8])
            self.assertIs(are_variants(term, renumber(term)), True)
            self.assertEqual(list_items(items(term, term)), [term, term])
            self.assertEqual(list_term([term], tail=term), items(term, tail=term))
            self.assertIsNone(list_items(term))

    def test_parts_of_deep_terms(self):
        self.assertEqual(parts(chain("s", DEPTH, v(3))), [chain("s", DEPTH - 1, v(3))])
        self.assertEqual(parts(left_chain("-", 499, v(3))), [left_chain("-", 498, v(3)), a("x")])
        self.assertEqual(parts(right_chain("^", 499, v(3))), [a("x"), right_chain("^", 498, v(3))])


if __name__ == "__main__":
    unittest.main()
