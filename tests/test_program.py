"""Points 20 to 22, and hornbook/program.py."""

import unittest

from helper import BUILT_IN, CONTROL, DEPTH, a, chain, f, i, items, left_chain, right_chain, sized, v
from hornbook.errors import BadClause, BadOperator, BadText
from hornbook.program import Program, goal_form, head_and_body, is_built_in, is_control, read_program

OTHERS = ["foo", "[]", "{}", ".", ":-", ">", ">=", "=\\=", "@>", "not", "once", "halt", "op", "dynamic", "repeat"]
TRUE = a("true")


def fact(number):
    return f("p", i(number))


class Indicators(unittest.TestCase):

    def test_each_name_at_each_arity(self):
        names = {name for name, _ in CONTROL + BUILT_IN} | set(OTHERS)
        for name in names:
            for arity in range(9):
                with self.subTest((name, arity)):
                    self.assertIs(is_control(name, arity), (name, arity) in CONTROL)
                    self.assertIs(is_built_in(name, arity), (name, arity) in BUILT_IN)


class GoalForm(unittest.TestCase):

    def test_variables_and_integers(self):
        self.assertEqual(goal_form(v(3)), f("call", v(3)))
        self.assertEqual(goal_form(i(-3)), f("call", i(-3)))

    def test_other_terms(self):
        for term in (a("a"), a("!"), f("p", v(0), i(1)), f("call", v(0)), f("=", v(0), v(1)), items(v(0)),
                     a(","), a("\\+")):
            self.assertEqual(goal_form(term), term)

    def test_each_symbol(self):
        for name in (",", ";", "->"):
            self.assertEqual(goal_form(f(name, v(0), i(2))), f(name, f("call", v(0)), f("call", i(2))))
            self.assertEqual(goal_form(f(name, a("a"), f("p", v(0)))), f(name, a("a"), f("p", v(0))))
        self.assertEqual(goal_form(f("\\+", v(1))), f("\\+", f("call", v(1))))

    def test_the_symbols_at_other_arities(self):
        for name, own in ((",", 2), (";", 2), ("->", 2), ("\\+", 1)):
            for arity in range(9):
                term = f(name, *[v(k) for k in range(arity)])
                with self.subTest((name, arity)):
                    expected = f(name, *[f("call", v(k)) for k in range(arity)]) if arity == own else term
                    self.assertEqual(goal_form(term), expected)

    def test_nested(self):
        term = f(",", f(";", v(0), f("\\+", f("->", i(1), v(2)))), f("p", f(",", v(0), v(1))))
        expected = f(",", f(";", f("call", v(0)), f("\\+", f("->", f("call", i(1)), f("call", v(2))))),
                     f("p", f(",", v(0), v(1))))
        self.assertEqual(goal_form(term), expected)
        self.assertEqual(goal_form(f("call", f(",", v(0), v(1)))), f("call", f(",", v(0), v(1))))
        self.assertEqual(goal_form(f("findall", v(0), v(1), v(2))), f("findall", v(0), v(1), v(2)))

    def test_deep_terms(self):
        self.assertEqual(goal_form(chain("\\+", DEPTH, v(0))), chain("\\+", DEPTH, f("call", v(0))))
        self.assertEqual(goal_form(right_chain(",", 499, v(0))), right_chain(",", 499, f("call", v(0))))
        self.assertEqual(goal_form((("f", ";", 2),) * 499 + v(0) * 500), (("f", ";", 2),) * 499 + f("call", v(0)) * 500)
        self.assertEqual(goal_form(left_chain("-", 499, v(0))), left_chain("-", 499, v(0)))


class HeadAndBody(unittest.TestCase):

    def test_clauses(self):
        self.assertEqual(head_and_body(f(":-", f("p", v(3)), f("q", v(3), v(1)))), (f("p", v(3)), f("q", v(3), v(1))))
        self.assertEqual(head_and_body(f("p", v(3))), (f("p", v(3)), TRUE))
        self.assertEqual(head_and_body(a("p")), (a("p"), TRUE))
        self.assertEqual(head_and_body(f(":-", a("p"), v(0))), (a("p"), v(0)))
        self.assertEqual(head_and_body(f(":-", a("p"), i(7))), (a("p"), i(7)))
        self.assertEqual(head_and_body(f(":-", f(":-", a("p"), v(0)), a("q"))), (f(":-", a("p"), v(0)), a("q")))
        self.assertEqual(head_and_body(f(":-", a("p"))), (f(":-", a("p")), TRUE))
        self.assertEqual(head_and_body(a(":-")), (a(":-"), TRUE))
        self.assertEqual(head_and_body(f(":-", a("p"), f(":-", a("q"), a("r")))), (a("p"), f(":-", a("q"), a("r"))))
        self.assertIs(type(head_and_body(a("p"))), tuple)

    def test_bodies_may_be_anything(self):
        for body in (v(0), i(3), a("!"), f(",", v(0), i(1)), f("is", v(0), v(1)), a("fail"), items(v(0))):
            self.assertEqual(head_and_body(f(":-", a("p"), body)), (a("p"), body))

    def test_wrong_heads(self):
        for head in (v(0), i(3), i(-1)):
            for clause in (head, f(":-", head, a("q")), f(":-", head, TRUE)):
                with self.assertRaises(BadClause):
                    head_and_body(clause)

    def test_heads_of_control_constructs_and_built_in_predicates(self):
        for name, arity in CONTROL + BUILT_IN:
            head = f(name, *[v(k) for k in range(arity)])
            for clause in (head, f(":-", head, a("q"))):
                with self.subTest(clause), self.assertRaises(BadClause):
                    head_and_body(clause)
            other = f(name, *[v(k) for k in range(arity + 1)]) if arity < 8 else a(name)
            if (name, arity + 1) not in CONTROL + BUILT_IN:
                self.assertEqual(head_and_body(other), (other, TRUE))

    def test_200_nodes(self):
        self.assertEqual(head_and_body(sized(200)), (sized(200), TRUE))
        self.assertEqual(head_and_body(f(":-", a("p"), sized(198))), (a("p"), sized(198)))
        self.assertEqual(head_and_body(f(":-", sized(198), a("p"))), (sized(198), a("p")))
        for clause in (sized(201), f(":-", a("p"), sized(199)), f(":-", sized(199), a("p")), sized(1000)):
            with self.assertRaises(BadClause):
                head_and_body(clause)

    def test_deep_terms(self):
        for clause in (chain("s", DEPTH, v(0)), f(":-", chain("s", 998, v(0)), v(0)), left_chain(":-", 499, a("p"))):
            with self.assertRaises(BadClause):
                head_and_body(clause)
        self.assertEqual(head_and_body(chain("s", 199, v(0))), (chain("s", 199, v(0)), TRUE))


class Programs(unittest.TestCase):

    def setUp(self):
        self.terms = [
            f("p", v(7), v(3), v(7)), f(":-", a("q"), f("r", v(4), v(2))), f(":-", f("p", v(9), a("a"), v(1)), v(1)),
            f(":-", f("r", v(5)), f("s", v(2), v(5))), a("q"), f("p", i(1)),
        ]
        self.pairs = [
            (f("p", v(0), v(1), v(0)), TRUE), (a("q"), f("r", v(0), v(1))), (f("p", v(0), a("a"), v(1)), v(1)),
            (f("r", v(0)), f("s", v(1), v(0))), (a("q"), TRUE), (f("p", i(1)), TRUE),
        ]
        self.program = Program(self.terms, [("p", 3), ("x", 0), ("p", 3), ("=", 2)])

    def check(self, program, pairs):
        self.assertEqual(program.clauses(), pairs)
        for name, arity in (("p", 3), ("q", 0), ("r", 1), ("p", 1), ("p", 0), ("none", 2), ("q", 1)):
            expected = [pair for pair in pairs if pair[0][0] == ("f", name, arity)]
            self.assertEqual(program.predicate(name, arity), expected)

    def check_unchanged(self):
        self.check(self.program, self.pairs)
        for name, arity, expected in (
                ("p", 3, True), ("x", 0, True), ("=", 2, True), ("q", 0, False), ("x", 1, False), ("p", 1, False)):
            self.assertIs(self.program.is_dynamic(name, arity), expected)

    def test_clauses_and_predicates(self):
        self.check_unchanged()
        self.check(Program([], []), [])
        self.assertIs(Program([], []).is_dynamic("p", 3), False)

    def test_the_lists_may_be_changed(self):
        dynamic = [("p", 3), ("x", 0), ("=", 2)]
        terms = list(self.terms)
        self.program = Program(terms, dynamic)
        self.assertEqual((terms, dynamic), (self.terms, [("p", 3), ("x", 0), ("=", 2)]))
        terms.append(a("more"))
        dynamic.append(("q", 0))
        self.check_unchanged()
        self.program.clauses().append("more")
        self.program.predicate("p", 3).append("more")
        self.program.predicate("none", 2).append("more")
        self.check_unchanged()

    def test_with_clause(self):
        more = f(":-", f("p", v(8), v(5), v(6)), f("q", v(6)))
        pair = (f("p", v(0), v(1), v(2)), f("q", v(2)))
        self.check(self.program.with_clause(more), self.pairs + [pair])
        self.check(self.program.with_clause(more, first=False), self.pairs + [pair])
        self.check(self.program.with_clause(more, first=True), [pair] + self.pairs)
        twice = self.program.with_clause(more, first=True).with_clause(a("q"))
        self.check(twice, [pair] + self.pairs + [(a("q"), TRUE)])
        self.assertIs(self.program.with_clause(more).is_dynamic("x", 0), True)
        self.assertIs(self.program.with_clause(more).is_dynamic("q", 0), False)
        self.check_unchanged()

    def test_with_wrong_clause(self):
        for clause in (v(0), i(1), a("true"), f("=", v(0), v(0)), f(":-", v(0), a("q")), sized(201)):
            for first in (True, False):
                with self.assertRaises(BadClause):
                    self.program.with_clause(clause, first=first)
        self.check_unchanged()

    def test_without(self):
        places = {("p", 3): [0, 2], ("q", 0): [1, 4], ("r", 1): [3], ("p", 1): [5]}
        for (name, arity), found in places.items():
            for position, place in enumerate(found):
                program = self.program.without(name, arity, position)
                self.check(program, self.pairs[:place] + self.pairs[place + 1:])
                self.assertIs(program.is_dynamic("x", 0), True)
                self.assertIs(program.is_dynamic("q", 0), False)
        self.check(self.program.without("q", 0, 0).without("q", 0, 0),
                   [pair for pair in self.pairs if pair[0] != a("q")])
        self.check_unchanged()

    def test_changed_programs_stay_apart(self):
        more = self.program.with_clause(a("q"))
        less = more.without("q", 0, 0)
        more.clauses().clear()
        self.assertEqual(len(more.clauses()), 7)
        self.assertEqual(len(less.clauses()), 6)
        self.check_unchanged()

    def test_wrong_clauses(self):
        for clause in (v(0), i(1), a("true"), f("=", v(0), v(0)), f(":-", v(0), a("q")), f(":-", i(1), a("q")),
                       sized(201)):
            for terms in ([clause], [a("p"), clause], [clause, a("p")]):
                with self.assertRaises(BadClause):
                    Program(terms, [])

    def test_a_term_with_the_symbol_of_directives_is_a_clause(self):
        self.assertEqual(Program([f(":-", a("p"))], []).clauses(), [(f(":-", a("p")), TRUE)])

    def test_200_nodes(self):
        self.assertEqual(Program([sized(200)], []).clauses(), [(sized(200), TRUE)])
        whole = f(":-", a("p"), sized(198))
        self.assertEqual(Program([whole], []).clauses(), [(a("p"), sized(198))])
        with self.assertRaises(BadClause):
            Program([f(":-", a("p"), sized(199))], [])

    def test_200_clauses(self):
        terms = [fact(number) for number in range(200)]
        program = Program(terms, [])
        self.assertEqual(len(program.clauses()), 200)
        with self.assertRaises(BadClause):
            Program(terms + [fact(0)], [])
        for first in (True, False):
            with self.assertRaises(BadClause):
                program.with_clause(fact(0), first=first)
        smaller = program.without("p", 1, 7)
        self.assertEqual(len(smaller.clauses()), 199)
        self.assertEqual(len(smaller.with_clause(fact(0)).clauses()), 200)
        self.assertEqual(len(program.clauses()), 200)


class Reading(unittest.TestCase):

    def raises(self, error, text, at=None):
        with self.subTest(text):
            with self.assertRaises(error) as caught:
                read_program(text)
            self.assertIs(type(caught.exception), error)
            if at is not None:
                self.assertEqual(caught.exception.at, at)

    def test_programs(self):
        program = read_program("p(1). # c\np(X) :- q(X, _), p(X).\nq(Y, Y).")
        self.assertEqual(program.clauses(), [
            (f("p", i(1)), TRUE), (f("p", v(0)), f(",", f("q", v(0), v(1)), f("p", v(0)))), (f("q", v(0), v(0)), TRUE)])
        self.assertEqual(read_program("").clauses(), [])
        self.assertEqual(read_program("# p.").clauses(), [])
        self.assertIsInstance(program, Program)
        self.assertIs(program.is_dynamic("p", 1), False)

    def test_variables_are_renumbered_in_head_and_body(self):
        program = read_program("p(_, X) :- q(Y, X).")
        self.assertEqual(program.clauses(), [(f("p", v(0), v(1)), f("q", v(2), v(1)))])

    def test_dynamic(self):
        program = read_program(":- dynamic(foo, 2). p. :- dynamic('A b', 0). :- dynamic([], 8). :- dynamic(foo, 2).")
        self.assertEqual(program.clauses(), [(a("p"), TRUE)])
        for name, arity in (("foo", 2), ("A b", 0), ("[]", 8)):
            self.assertIs(program.is_dynamic(name, arity), True)
        for name, arity in (("foo", 1), ("p", 0), ("[]", 0)):
            self.assertIs(program.is_dynamic(name, arity), False)
        self.assertIs(read_program("p. :- dynamic(p, 0).").is_dynamic("p", 0), True)
        self.assertIs(read_program(":- dynamic(write, 1).").is_dynamic("write", 1), True)
        self.assertIs(read_program(":-(dynamic(p, 0)).").is_dynamic("p", 0), True)
        self.assertIs(read_program(":- dynamic(-, 0).").is_dynamic("-", 0), True)

    def test_operators(self):
        program = read_program("p(a). :- op(700, xfx, ===). a === b. :- op(200, fy, foo). foo foo a === b.")
        self.assertEqual([head for head, _ in program.clauses()], [
            f("p", a("a")), f("===", a("a"), a("b")), f("===", f("foo", f("foo", a("a"))), a("b"))])
        self.raises(BadText, "a === b. :- op(700, xfx, ===).", 2)
        self.raises(BadText, ":- op(700, xfx, ===). :- op(0, xfx, ===). a === b.", 44)
        self.raises(BadText, "p(a - b). :- op(0, yfx, -). p(a - b).", 32)
        program = read_program("p(a - b). :- op(0, yfx, -). p(- a).")
        self.assertEqual(program.clauses()[1], (f("p", f("-", a("a"))), TRUE))
        program = read_program(":- op(200, xfy, -). p(a - b - c).")
        self.assertEqual(program.clauses()[0][0], f("p", f("-", a("a"), f("-", a("b"), a("c")))))
        program = read_program(":- op(0, xfx, :-). :-(a, b). :- dynamic(c, 1).")
        self.assertEqual(program.clauses(), [(a("a"), a("b"))])
        self.assertIs(program.is_dynamic("c", 1), True)
        self.raises(BadText, ":- op(0, fx, :-). :- dynamic(c, 1).", 21)
        self.assertEqual(read_program(":- op(0, xfy, nothing).").clauses(), [])

    def test_operators_of_one_text_hold_for_it_only(self):
        read_program(":- op(700, xfx, ===). a === b.")
        self.raises(BadText, "a === b.", 2)
        read_program(":- op(0, xfx, =).")
        self.assertEqual(len(read_program("p(a = b).").clauses()), 1)

    def test_wrong_operators(self):
        for words in ("1201, xfx, a", "-1, xfx, a", "700, xf, a", "700, prefix, a", "700, [], a", "0, foo, a",
                      "700, xfx, []", "700, xfx, {}", "700, xfx, ','", "700, xfx, '|'", "0, xfx, ','", "99999, fy, a"):
            self.raises(BadOperator, f":- op({words}).")
            self.raises(BadOperator, f"p. :- op({words}). X.")

    def test_wrong_directives(self):
        for words in ("a", "X", "3", "[]", "op(P, xfx, a)", "op(a, xfx, b)", "op(700, X, a)", "op(700, xfx, X)",
                      "op(700, xfx, f(a))", "op(700, 1, a)", "op(700, xfx, 1)", "op(f(1), xfx, a)", "op(700, xfx, [a])",
                      "op(700, xfx(a), b)", "op(700, xfx)", "op(700, xfx, a, b)", "op",
                      "dynamic(p // 1)", "dynamic('/'(p, 1))", "dynamic(p)",
                      "dynamic(p, -1)", "dynamic(p, 9)", "dynamic(P, 1)", "dynamic(p, A)", "dynamic(1, 1)", "dynamic",
                      "dynamic(f(a), 1)", "dynamic(p, a)", "dynamic(p, f(1))", "dynamic(p, 1, 2)", "initialization(p)",
                      "(op(700, xfx, a), op(700, xfx, b))", "dynamic(p, - 1)", "op(- 1, xfx, a)", "(:- op(1, fx, a))"):
            self.raises(BadClause, f":- {words}.")
            self.raises(BadClause, f"p. :- {words}. )")

    def test_wrong_clauses(self):
        for clause in ("X", "3", "X :- a", "3 :- a", "true", "a = b", "(a, b)", "! :- a", "call(X)", "\\+ a",
                       "write(X) :- a",
                       "f(" + "1" + "+1" * 99 + ", 1)"):
            self.raises(BadClause, f"{clause}.")
            self.raises(BadClause, f"p. {clause}. q. ) .")
        self.assertEqual(len(read_program("f(1" + "+1" * 99 + ").").clauses()), 1)

    def test_errors_in_their_order(self):
        self.raises(BadText, "X. a b. 1x.", 8)
        self.raises(BadClause, "X. a b.")
        self.raises(BadText, "a b. X.", 2)
        self.raises(BadOperator, ":- op(1201, xfx, a). X. a b.")
        self.raises(BadClause, "X. :- op(1201, xfx, a). a b.")
        self.raises(BadText, "a b. :- op(1201, xfx, a). X.", 2)
        self.raises(BadText, ":- foo. 'a", 8)
        self.raises(BadText, ":- op(1201, xfx, a). \"", 21)
        self.raises(BadText, "p. 1" + "+1" * 500 + ". X.", 3)
        self.raises(BadText, "p(X", 3)
        self.raises(BadText, "p. ) X.", 3)

    def test_200_clauses(self):
        many = "p(1).\n" * 200
        self.assertEqual(len(read_program(many).clauses()), 200)
        self.assertEqual(len(read_program(many + ":- dynamic(q, 0). # c\n").clauses()), 200)
        self.assertEqual(len(read_program(":- dynamic(q, 0). " * 300).clauses()), 0)
        self.raises(BadClause, many + "p(1).")
        self.raises(BadClause, many + "p(1). a b.")
        self.raises(BadClause, many + ":- dynamic(q, 0). p(1). )")
        self.raises(BadText, many + "a b.", 1202)
        self.raises(BadText, many + "p(1). 1x.", 1206)
        self.raises(BadText, "a b. " + many, 2)
        self.raises(BadOperator, many + ":- op(1201, xfx, a). p(1).")
        self.raises(BadText, many + ":- dynamic(q, 0). a b.", 1220)


if __name__ == "__main__":
    unittest.main()
