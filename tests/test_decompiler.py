"""Point 55, and hornbook/decompiler.py."""

import unittest

from helper import (
    BUILT_IN, a, chain, f, i, items, left_chain, normal_body, random_body, random_goal, random_term, read, renumbered,
    right_chain, seeded, shown, v)
from hornbook.compiler import compile_clause, compile_goal
from hornbook.decompiler import decompile
from hornbook.program import split_clause
from hornbook.terms import variables


class Reading(unittest.TestCase):

    def check(self, head, body):
        code = compile_clause(head, body)
        found = decompile(code, head[0][1], head[0][2])
        self.assertEqual(found, tuple(renumbered([head, normal_body(body)])))
        self.assertIs(type(found), tuple)
        return found

    def check_text(self, text, expected):
        head, body = self.check(*split_clause(read(text)))
        with self.subTest(text):
            self.assertEqual((head, body), split_clause(read(expected)))

    def test_heads(self):
        for text in ("p", "p(X)", "p(X, X)", "p(X, Y, X, Y)", "p(a)", "p(3, -4, [])", "p(f(X), X)", "p(X, f(X, a))",
                     "p(f(g(X), Y, h(Y, 1)), X)", "p([1, X, Y|Z], [Z|Y])", "p(_, _)", "p(A, B, C, D, E, F, G, H)",
                     "p(f(A, f(B, f(C, D))), f(f(f(A))))"):
            self.check_text(text, text)
            self.check_text(text + " :- q", text + " :- q")
            self.check_text(text + " :- q, r", text + " :- q, r")

    def test_goals(self):
        for goal in ("q", "q(X)", "q(X, X)", "q(a, 3)", "q(f(X, Y), Y, [Y])", "q(f(f(g(X), 1)), h(Z, Z))", "q(_, f(_))",
                     "q(A, B, C, D, E, F, G, H)", "X = f(X)", "write(a)", "findall(X, (p ; q, true), L)",
                     "call((a, b), X)",
                     "call(X, Y)", "catch(a, !, true)"):
            for text in (f"p :- {goal}", f"p :- {goal}, r", f"p :- r, {goal}", f"p :- r, {goal}, s",
                f"p :- ({goal} ; r)",
                         f"p :- ({goal} -> r ; s)", f"p :- \\+ {goal}", f"p(X) :- {goal}", f"p(f(Y), X) :- !, {goal}"):
                self.check_text(text, text)

    def test_conjunctions_in_each_nesting(self):
        for text, expected in (
                ("p :- (a, b), c", "p :- a, b, c"), ("p :- ((a, b), c), d", "p :- a, b, c, d"),
                ("p :- (a, (b, c)), (d, e)", "p :- a, b, c, d, e"), ("p :- a, (b, (c, d))", "p :- a, b, c, d"),
                ("p :- ((a, b), (c, d)), !", "p :- a, b, c, d, !"), ("p :- ((a, b), c ; d)", "p :- (a, b, c ; d)"),
                ("p :- \\+ ((a, b), c)", "p :- \\+ (a, b, c)")):
            self.check_text(text, expected)

    def test_true_at_each_place(self):
        for text, expected in (
                ("p :- true", "p"), ("p :- true, true", "p"), ("p :- (true, true), true", "p"),
                ("p :- true, a", "p :- a"), ("p :- a, true", "p :- a"), ("p :- a, true, b", "p :- a, b"),
                ("p :- (true, a, true), (true, b)", "p :- a, b"), ("p :- (true ; a)", "p :- (true ; a)"),
                ("p :- (a ; true)", "p :- (a ; true)"), ("p :- (a ; true), b", "p :- (a ; true), b"),
                ("p :- (true ; true)", "p :- (true ; true)"), ("p :- (true -> true ; true)",
                "p :- (true -> true ; true)"),
                ("p :- \\+ true", "p :- \\+ true"), ("p :- \\+ (true, a)", "p :- \\+ a"),
                ("p :- (a, true -> true, b ; true, c)", "p :- (a -> b ; c)"), ("p :- !, true", "p :- !"),
                ("p :- (true, true ; a), true", "p :- (true ; a)"), ("p :- fail, true", "p :- fail")):
            self.check_text(text, expected)
        self.assertEqual(self.check(a("p"), a("true")), (a("p"), a("true")))

    def test_variables_and_integers_as_goals(self):
        for text, expected in (
                ("p(X) :- X", "p(X) :- call(X)"), ("p(X) :- X, a", "p(X) :- call(X), a"),
                ("p(X) :- (X ; a)", "p(X) :- (call(X) ; a)"), ("p :- 3", "p :- call(3)"),
                ("p(X) :- (X -> 3 ; X)", "p(X) :- (call(X) -> call(3) ; call(X))"),
                ("p(X) :- \\+ X", "p(X) :- \\+ call(X)"), ("p :- X, X", "p :- call(X), call(X)"),
                ("p :- call(X), 3", "p :- call(X), call(3)")):
            self.check_text(text, expected)

    def test_conditions(self):
        for text, expected in (
                ("p :- (a -> b)", "p :- (a -> b ; fail)"), ("p :- (a -> b), c", "p :- (a -> b ; fail), c"),
                ("p :- ((a -> b) -> c)", "p :- ((a -> b ; fail) -> c ; fail)"),
                ("p :- (a -> (b -> c))", "p :- (a -> (b -> c ; fail) ; fail)"),
                ("p :- (a ; b -> c)", "p :- (a ; (b -> c ; fail))"),
                ("p :- \\+ (a -> b)", "p :- \\+ (a -> b ; fail)"),
                ("p :- ((a -> b), true ; c)", "p :- ((a -> b ; fail) ; c)"),
                ("p :- (true, (a -> b) ; c)", "p :- ((a -> b ; fail) ; c)")):
            self.check_text(text, expected)
        for body in ("(a -> b ; c)", "(a -> b ; c), d", "(a -> b ; c -> d ; e)", "(a -> b ; (c ; d))",
                     "((a -> b ; c) -> d ; e)", "(a -> (b -> c ; d) ; e)", "(a -> fail ; b)", "(a -> fail ; b), c",
                     "(a -> b, fail ; c)", "(fail -> a ; b)", "(a -> ! ; b)", "(! -> a ; b)", "(! -> ! ; !)",
                     "(a, ! -> b ; c)", "((a, ! ; b) -> c ; d)", "((!, a ; b) -> c ; d)", "((true -> a ; b) -> c ; d)",
                     "((! -> a ; b) -> c ; d)", "((! ; a) -> b ; c)", "((a ; b), ! -> c ; d)",
                     "((a -> ! ; b) -> ! ; c), !", "(a -> b ; \\+ c)", "(\\+ a -> b ; c)", "(\\+ ! -> ! ; !)"):
            self.check_text(f"p :- {body}", f"p :- {body}")
            self.check_text(f"p :- d, {body}, e", f"p :- d, {body}, e")

    def test_negations(self):
        for body in ("\\+ a", "\\+ a, b", "\\+ (a, b)", "\\+ \\+ a", "\\+ \\+ \\+ a, \\+ b", "\\+ !", "\\+ (a, !), !",
                     "\\+ (! ; a)", "\\+ (a ; !)", "\\+ (true ; !)", "\\+ fail", "\\+ (a, fail)", "\\+ (a -> b ; c)",
                     "\\+ (! -> b ; c)", "\\+ (a -> ! ; c)", "\\+ \\+ !", "\\+ (!, \\+ !)", "\\+ ((a ; b), !)",
                     "(\\+ a ; b)", "(a ; \\+ b), c", "\\+ a, fail", "\\+ ((!, a ; b) ; c)"):
            self.check_text(f"p :- {body}", f"p :- {body}")
            self.check_text(f"p :- d, {body}, e", f"p :- d, {body}, e")

    def test_disjunctions(self):
        for body in ("(a ; b)", "(a ; b ; c)", "((a ; b) ; c)", "((a ; b) ; (c ; d))", "(a, b ; c, d), e", "(! ; a)",
                     "(fail ; a)", "(a ; fail)", "(a, fail ; b, !)", "(a ; b), (c ; d)", "((a ; b), (c ; d) ; e)"):
            self.check_text(f"p :- {body}", f"p :- {body}")
            self.check_text(f"p :- d, {body}, e", f"p :- d, {body}, e")

    def test_what_stands_behind_fail(self):
        for body in ("fail, a", "fail, fail", "fail, a(X), b(X)", "a(X), fail, b(X, Y), c(Y)", "fail, (a ; b), c",
                     "(fail, a ; b), c", "(a -> fail, b ; c)", "\\+ (fail, a), b", "fail, !", "(fail, a -> b ; c)",
                     "fail, \\+ a, b"):
            self.check_text(f"p :- {body}", f"p :- {body}")
            self.check_text(f"p(Y, X) :- d, {body}, e", f"p(Y, X) :- d, {body}, e")

    def test_variables(self):
        for text in ("p(X, _) :- q(_, X)", "p(_) :- q, r", "p(X) :- q, r(_), s(X)", "p :- q(X), r(X)",
            "p :- q(X), r(Y), s(Y, X)",
                     "p :- (q(X) ; r(X))", "p :- (q(X) ; r(X)), s(X)", "p :- (q(X) -> r(X) ; s(X))",
                     "p :- \\+ q(X), r(X)",
                     "p :- \\+ q(X), \\+ r(X)", "p(X) :- (q(Y) ; r(Y) ; s(X))", "p :- (q(X, Y) ; q(Y, X)), r(Y)",
                     "p :- (q(X) -> r ; s), t(X)", "p :- (q -> r(X) ; s), t(X)", "p :- (q(X), fail ; r(X))",
                     "p(X, Y) :- q(f(Z, Y), g(W)), r(W, Z, X)", "p(X, X, f(X)) :- q(X, g(X)), q(X, X)"):
            self.check_text(text, text)

    def test_names_of_constructs_with_other_arities(self):
        for name, arity in ((",", 1), (",", 3), ("!", 1), ("true", 2), ("fail", 1), (";", 3), (";", 0), ("->", 1),
                            ("->", 3), ("\\+", 0), ("\\+", 2), (",", 0), ("call", 0), (":-", 2)):
            goal = f(name, *[v(k) for k in range(arity)])
            self.check(goal, f(",", goal, f(";", goal, f("\\+", goal))))

    def test_built_in_predicates(self):
        for name, arity in BUILT_IN + [("call", k) for k in range(1, 9)] + [("catch", 3), ("findall", 3), ("throw", 1)]:
            goal = f(name, *[f("g", v(k), v(k + 1)) for k in range(arity)])
            self.check(f("p", v(2)), goal)
            self.check(f("p", v(2)), f(",", goal, goal))

    def test_nested_200_deep(self):
        for head, body in (
                (f("p", chain("s", 197, v(0))), a("true")), (f("p", left_chain("t", 98, v(0))), a("true")),
                (f("p", right_chain("t", 98, v(0))), a("true")), (a("p"), f("q", chain("s", 196, v(0)))),
                (a("p"), f("q", left_chain("t", 97, v(0)))), (a("p"), f("q", right_chain("t", 97, v(0)))),
                (a("p"), left_chain(",", 98, a("q"))), (a("p"), right_chain(",", 98, a("q"))),
                (a("p"), left_chain(";", 98, a("q"))), (a("p"), right_chain(";", 98, a("q"))),
                (a("p"), left_chain("->", 98, a("q"))), (a("p"), right_chain("->", 98, a("q"))),
                (a("p"), chain("\\+", 196, a("q"))), (a("p"), chain("\\+", 196, v(0))),
                (a("p"), (("f", ";", 2), ("f", "->", 2), ("f", "q", 0), ("f", "!", 0)) * 45 + a("r"))):
            self.check(head, body)

    def test_drawn_clauses(self):
        source = seeded(55)
        for _ in range(2500):
            arity = source.choice((0, 1, 2, 3, 8))
            head = f("p", *[random_term(source, source.randrange(1, 6), ["a", "b"]) for _ in range(arity)])
            self.check(head, random_body(source, source.randrange(1, 30), random_goal))


class Goals(unittest.TestCase):

    def check(self, goal):
        code, numbers = compile_goal(goal)
        self.assertEqual(numbers, variables(goal))
        head = f("any", *[v(number) for number in numbers])
        self.assertEqual(decompile(code, "any", len(numbers)), tuple(renumbered([head, normal_body(goal)])))

    def test_0_to_8_variables(self):
        for count in range(9):
            row = [v(k) for k in range(count)]
            self.check(f("q", *row))
            self.check(f(",", f("q", *row), f("r", items(*row[::-1]))))
            self.check(f(";", f("q", items(*row)), f("\\+", f("q", *row[::-1]))))
        self.check(v(5))
        self.check(i(5))
        self.check(a("true"))

    def test_more_than_8_variables(self):
        # Its code is the one that compile_clause returns, which is all that is asked of it.
        code, numbers = compile_goal(f("q", items(*[v(k) for k in range(20)])))
        self.assertEqual(numbers, list(range(20)))
        self.assertEqual([instruction[0] for instruction in code].count("get_variable"), 20)


class Results(unittest.TestCase):

    def test_the_name_is_the_given_one(self):
        code = compile_clause(f("p", v(3)), f("q", v(3)))
        self.assertEqual(decompile(code, "other", 1), (f("other", v(0)), f("q", v(0))))

    def test_examples_of_the_document(self):
        code = (
            ("get_structure", ".", 2, 0), ("unify_variable", ("x", 8)), ("unify_variable", ("x", 9)),
            ("get_variable", ("x", 10), 1), ("get_structure", ".", 2, 2), ("unify_value", ("x", 8)),
            ("unify_variable", ("x", 11)), ("put_value", ("x", 9), 0), ("put_value", ("x", 10), 1),
            ("put_value", ("x", 11), 2), ("execute", "app", 3))
        head, body = decompile(code, "app", 3)
        self.assertEqual((shown(head), shown(body)), ("app([_0|_1],_2,[_0|_3])", "app(_0,_1,_2)"))
        self.assertEqual((head, body), split_clause(read("app([H|X], Y, [H|Z]) :- app(X, Y, Z)")))
        code = (
            ("allocate", 2), ("get_variable", ("y", 0), 0), ("mark", ("y", 1)), ("try_else", 9), ("call", "q", 0, 2),
            ("commit", ("y", 1)), ("put_value", ("y", 0), 0), ("deallocate",), ("execute", "r", 1),
            ("deallocate",), ("execute", "s", 0))
        self.assertEqual(decompile(code, "p", 1), split_clause(read("p(X) :- (q -> r(X) ; s)")))


if __name__ == "__main__":
    unittest.main()
