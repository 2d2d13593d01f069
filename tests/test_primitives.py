"""Points 27 to 30, 97 and 103, and hornbook/primitives.py."""

import unittest

from helper import (
    BUILT_IN, CONTROL, EMPTY, a, chain, clauses, f, facts, i, items, left_chain, read, reads, rule, shown, sized, v)
from hornbook.errors import TablesFull, TooLarge, TooMany
from hornbook.primitives import perform
from hornbook.program import Program, is_built_in, read_program
from hornbook.terms import is_term, renumber, variables
from hornbook.unify import apply, unify
from hornbook.writer import write
from hornbook.operators import initial_table

NO_PROGRAM = Program([], [])
FIRST = 50


class Performing(unittest.TestCase):

    def check(self, goal, expected, new=0, program=NO_PROGRAM):
        """The goal after the unification, or "true", "fail", or None if it fails in either way."""
        term = read(goal) if isinstance(goal, str) else goal
        with self.subTest(goal):
            result = perform(term, FIRST, program)
            self.assertIs(type(result), tuple)
            if expected in ("true", "fail") or (expected is None and result[0] == "fail"):
                self.assertEqual(result, (expected or "fail",))
                return
            word, left, right, first = result
            self.assertEqual((word, first), ("unify", FIRST + new))
            self.assertTrue(is_term(left) and is_term(right))
            unifier = unify(left, right)
            if expected is None:
                self.assertIsNone(unifier)
                return
            wanted = read(expected) if isinstance(expected, str) else expected
            self.assertEqual(shown(apply(unifier, term)), shown(wanted))
            used = {number for number in variables(left) + variables(right) if number not in variables(term)}
            self.assertEqual(used, set(range(FIRST, FIRST + new)))

    def raises(self, goal, error, program=NO_PROGRAM):
        term = read(goal) if isinstance(goal, str) else goal
        with self.subTest(goal):
            found = perform(term, FIRST, program)
            self.assertEqual(found, ("raise", read(error) if isinstance(error, str) else error))


class Comparison(Performing):

    def test_unification(self):
        self.check("X = a", "a = a")
        self.check("f(X, Y) = f(Y, b)", "f(b, b) = f(b, b)")
        self.check("X = Y", "X = X")
        self.check("X = f(X)", None)
        self.check("a = b", None)
        self.check("3 = 3", "3 = 3")
        self.check("f(a) = g(a)", None)

    def test_no_unifier(self):
        for goal, expected in (("a \\= b", "true"), ("a \\= a", "fail"), ("X \\= a", "fail"), ("X \\= f(X)", "true"),
                               ("f(X, b) \\= f(a, X)", "true"), ("3 \\= 4", "true"), ("X \\= Y", "fail")):
            self.check(goal, expected)

    def test_equality(self):
        for left, right, expected in (("a", "a", True), ("a", "b", False), ("X", "X", True), ("X", "Y", False),
                                      ("f(X, Y)", "f(X, Y)", True), ("f(X, Y)", "f(Y, X)", False), ("3", "3", True),
                                      ("1", "'1'", False), ("f(a)", "f(a, a)", False), ("[]", "'[]'", True)):
            self.check(f"{left} == {right}", "true" if expected else "fail")
            self.check(f"{left} \\== {right}", "fail" if expected else "true")

    def test_the_standard_order(self):
        ordered = ["X", "-5", "0", "7", "[]", "a", "b", "f(Y)", "f(1)", "f(a)", "g(a)", "a(b, c)", "a(c, Z)", "a(c, d)"]
        for at, left in enumerate(ordered):
            for place, right in enumerate(ordered):
                self.check(f"{left} @< {right}", "true" if at < place else "fail")
                sign = "(<)" if at < place else "(=)" if at == place else "'>'"
                self.check(f"compare(O, {left}, {right})", f"compare({sign}, {left}, {right})")

    def test_undecided_orders(self):
        for left, right in (("X", "Y"), ("f(X, 1)", "f(Y, 2)"), ("f(a, X)", "f(a, Y)")):
            self.raises(f"{left} @< {right}", "instantiation_error")
            self.raises(f"compare(O, {left}, {right})", "instantiation_error")
            self.raises(f"compare(5, {left}, {right})", "instantiation_error")
        self.check("f(1, X) @< f(2, Y)", "true")
        self.check("f(X) @< g(Y)", "true")
        self.check("f(X, 2) @< f(X, 1)", "fail")

    def test_compare_with_other_first_arguments(self):
        self.check("compare(<, 1, 2)", "compare(<, 1, 2)")
        self.check("compare(=, 1, 2)", None)
        self.check("compare(5, 1, 2)", None)
        self.check("compare('>', b, a)", "compare('>', b, a)")
        self.check("compare(f(X), b, a)", None)


class Inspection(Performing):

    def test_kinds(self):
        kinds = {"X": "var", "a": "nonvar atom callable", "[]": "nonvar atom callable", "3": "nonvar integer",
                 "-3": "nonvar integer", "f(X)": "nonvar callable", "[a]": "nonvar callable",
                 "','": "nonvar atom callable", "'A b'": "nonvar atom callable", "{}": "nonvar atom callable",
                 "a + b": "nonvar callable"}
        for term, words in kinds.items():
            for name in ("var", "nonvar", "atom", "integer", "callable"):
                self.check(f"{name}({term})", "true" if name in words.split() else "fail")

    def test_functor_of_a_term(self):
        self.check("functor(f(a, B), N, A)", "functor(f(a, B), f, 2)")
        self.check("functor(a, N, A)", "functor(a, a, 0)")
        self.check("functor(-7, N, A)", "functor(-7, -7, 0)")
        self.check("functor([a, b], N, A)", "functor([a, b], '.', 2)")
        self.check("functor([], N, A)", "functor([], [], 0)")
        self.check("functor(f(a), f, 1)", "functor(f(a), f, 1)")
        self.check("functor(f(a), f, 2)", None)
        self.check("functor(f(a), g, A)", None)
        self.check("functor(f(a), N, N)", None)
        self.check("functor(3, N, N)", None)
        self.check("functor(f(a), f(b), A)", None)
        self.check("functor(f(a), N, b)", None)
        self.check("functor(f(a), N, -1)", None)
        self.check("functor(0, N, N)", "functor(0, 0, 0)")

    def test_functor_makes_a_term(self):
        self.check("functor(T, f, 2)", f("functor", f("f", v(0), v(1)), a("f"), i(2)), new=2)
        self.check("functor(T, foo, 1)", f("functor", f("foo", v(0)), a("foo"), i(1)), new=1)
        self.check("functor(T, f, 0)", "functor(f, f, 0)")
        self.check("functor(T, 7, 0)", "functor(7, 7, 0)")
        self.check("functor(T, [], 1)", f("functor", f("[]", v(0)), EMPTY, i(1)), new=1)
        self.check("functor(T, f, 8)", f("functor", f("f", *[v(k) for k in range(8)]), a("f"), i(8)), new=8)

    def test_functor_errors_in_order(self):
        self.raises("functor(T, N, A)", "instantiation_error")
        self.raises("functor(T, f, A)", "instantiation_error")
        self.raises("functor(T, N, 1)", "instantiation_error")
        self.raises("functor(T, N, a)", "instantiation_error")
        self.raises("functor(T, f(x), A)", "instantiation_error")
        self.raises("functor(T, f, a)", "type_error(integer, a)")
        self.raises("functor(T, f(x), g(Y))", f("type_error", a("integer"), f("g", v(1))))
        self.raises("functor(T, f, -1)", "representation_error(arity)")
        self.raises("functor(T, f, 9)", "representation_error(arity)")
        self.raises("functor(T, f(x), 9)", "representation_error(arity)")
        self.raises("functor(T, 3, -1)", "representation_error(arity)")
        self.raises("functor(T, f(x), 1)", "type_error(atom, f(x))")
        self.raises("functor(T, f(x), 0)", "type_error(atom, f(x))")
        self.raises("functor(T, f(X), 1)", f("type_error", a("atom"), f("f", v(1))))
        self.raises("functor(T, f, g(3))", "type_error(integer, g(3))")
        self.raises("functor(T, g(3), h(2))", "type_error(integer, h(2))")
        self.raises("functor(T, g(3), 1)", "type_error(atom, g(3))")
        self.raises("functor(T, 3, 1)", "type_error(atom, 3)")
        self.raises("functor(T, 3, 8)", "type_error(atom, 3)")

    def test_arg(self):
        for number, letter in enumerate("abc", 1):
            self.check(f"arg({number}, f(a, b, c), X)", f"arg({number}, f(a, b, c), {letter})")
        for number in (0, -1, 4, 100):
            self.check(f"arg({number}, f(a, b, c), X)", "fail")
        self.check("arg(1, f(a), b)", None)
        self.check("arg(2, [a, b], X)", "arg(2, [a, b], [b])")
        self.check("arg(1, f(Y), g(Z))", "arg(1, f(g(Z)), g(Z))")
        self.raises("arg(I, f(a), X)", "instantiation_error")
        self.raises("arg(1, T, X)", "instantiation_error")
        self.raises("arg(a, T, X)", "instantiation_error")
        self.raises("arg(I, 3, X)", "instantiation_error")
        self.raises("arg(a, f(a), X)", "type_error(integer, a)")
        self.raises("arg(a, b, X)", "type_error(integer, a)")
        self.raises("arg(f(Y), g(Z), X)", f("type_error", a("integer"), f("f", v(0))))
        self.raises("arg(f(1), g(Z), X)", "type_error(integer, f(1))")
        self.raises("arg(1, a, X)", "type_error(compound, a)")
        self.raises("arg(1, 3, X)", "type_error(compound, 3)")
        self.raises("arg(0, [], X)", "type_error(compound, [])")

    def test_univ_takes_a_term_apart(self):
        self.check("f(a, B) =.. L", "f(a, B) =.. [f, a, B]")
        self.check("a =.. L", "a =.. [a]")
        self.check("7 =.. L", "7 =.. [7]")
        self.check("[a] =.. L", "[a] =.. ['.', a, []]")
        self.check("f(a) =.. [f | T]", "f(a) =.. [f, a]")
        self.check("f(a) =.. a", None)
        self.check("f(a) =.. [g, a]", None)
        self.check("f(a) =.. []", None)
        self.check("a =.. 3", None)

    def test_univ_makes_a_term(self):
        self.check("T =.. [f, a, B]", f("=..", f("f", a("a"), v(0)), items(a("f"), a("a"), v(0))))
        self.check("T =.. [a]", "a =.. [a]")
        self.check("T =.. [7]", "7 =.. [7]")
        self.check("T =.. [f(x)]", "f(x) =.. [f(x)]")
        self.check("T =.. [f(X)]", "f(X) =.. [f(X)]")
        self.check("T =.. [foo, g(X), X]", "foo(g(X), X) =.. [foo, g(X), X]")
        eight = items(a("f"), *[i(k) for k in range(8)])
        self.check(f("=..", v(0), eight), f("=..", f("f", *[i(k) for k in range(8)]), eight))
        self.check("T =.. [f, T]", None)

    def test_univ_errors_in_order(self):
        self.raises("T =.. L", "instantiation_error")
        self.raises("T =.. a", "instantiation_error")
        self.raises("T =.. 3", "instantiation_error")
        self.raises("T =.. [a | X]", "instantiation_error")
        self.raises("T =.. [a | b]", "instantiation_error")
        self.raises("T =.. [X]", "instantiation_error")
        self.raises("T =.. [X, a]", "instantiation_error")
        self.raises("T =.. []", "domain_error(list, [])")
        nine = [i(k) for k in range(9)]
        self.raises(f("=..", v(0), items(a("f"), *nine)), "representation_error(arity)")
        self.raises(f("=..", v(0), items(i(3), *nine)), "representation_error(arity)")
        self.raises(f("=..", v(0), items(v(3), *nine)), "instantiation_error")
        self.raises("T =.. [3, a]", "type_error(atom, 3)")
        self.raises("T =.. [f(x), a]", "type_error(atom, f(x))")

    def test_copy_term(self):
        self.check("copy_term(f(X, Y, X), Z)",
                   f("copy_term", f("f", v(0), v(1), v(0)), f("f", v(2), v(3), v(2))), new=2)
        self.check("copy_term(a, U)", "copy_term(a, a)")
        self.check("copy_term(f(X), f(a))", f("copy_term", f("f", v(0)), f("f", a("a"))), new=1)
        self.check("copy_term(X, X)", f("copy_term", v(0), v(0)), new=1)
        self.check("copy_term(a, b)", None)

    def test_sort(self):
        self.check("sort([c, a, b, a], M)", "sort([c, a, b, a], [a, b, c])")
        self.check("sort([], M)", "sort([], [])")
        self.check("sort([f(X), 3, Y, f(X), a], M)", "sort([f(X), 3, Y, f(X), a], [Y, 3, a, f(X)])")
        self.check("sort([b, a], [b, a])", None)
        self.check("sort([X, X], M)", "sort([X, X], [X])")
        for goal in ("sort(L, M)", "sort(a, M)", "sort([a | T], M)", "sort([a | b], M)", "sort(3, M)",
                     "sort([X, Y], M)", "sort([f(X), a, f(Y)], M)", "sort([X, 1, 2, Y], [])"):
            self.raises(goal, "instantiation_error")


class Arithmetic(Performing):

    def test_is(self):
        self.check("X is 1 + 2 * 3", "7 is 1 + 2 * 3")
        self.check("X is - (7) // 2", "-4 is - (7) // 2")
        self.check("5 is 2 + 3", "5 is 2 + 3")
        self.check("6 is 2 + 3", None)
        self.check("a is 2", None)
        self.check("1 + 1 is 1 + 1", None)
        self.raises("X is Y", "instantiation_error")
        self.raises("X is foo + 1", "type_error(evaluable, '/'(foo, 0))")
        self.raises("X is 1 // 0", "evaluation_error(zero_divisor)")
        self.raises("X is " + "9" * 39 + " * 99", "evaluation_error(overflow)")

    def test_comparisons(self):
        for left, right in ((1, 1), (1, 2), (2, 1), (-3, 3)):
            self.check(f"{left} =:= {right}", "true" if left == right else "fail")
            self.check(f"{left} < {right}", "true" if left < right else "fail")
            self.check(f"{left} =< {right}", "true" if left <= right else "fail")
        self.check("1 + 1 =:= 2 * 1", "true")
        self.check("10 mod 4 < 1 + 2", "true")

    def test_the_left_side_comes_first(self):
        for sign in ("=:=", "<", "=<"):
            self.raises(f"X {sign} foo", "instantiation_error")
            self.raises(f"foo {sign} X", "type_error(evaluable, '/'(foo, 0))")
            self.raises(f"1 {sign} X", "instantiation_error")
            self.raises(f"1 // 0 {sign} X", "evaluation_error(zero_divisor)")
            self.raises(f"f(1 // 0) {sign} 1", "type_error(evaluable, '/'(f, 1))")


class Output(Performing):

    def test_write(self):
        for term in ("X", "f(X, Y, X)", "a :- b, \\+ c", "[a | T]", "'A b'", "- (1)", "1 - (2 - 3)", "{a}"):
            goal = f("write", read(term))
            self.assertEqual(perform(goal, FIRST, NO_PROGRAM), ("write", write(read(term), initial_table())))
        self.assertEqual(perform(f("write", f("f", v(7), v(3))), FIRST, NO_PROGRAM), ("write", "f(_0,_1)"))

    def test_nl(self):
        self.assertEqual(perform(a("nl"), FIRST, NO_PROGRAM), ("write", "\n"))


class Changes(Performing):

    def setUp(self):
        self.program = read_program(":- dynamic(p, 1). :- dynamic(d, 0). p(1). q(2). p(X) :- q(X). q(Y).")

    def changed(self, goal, expected, new=0, program=None):
        """Check the clauses after a change; return the goal after the unification.

        `new` is the number of new variables, or None where others may have been tried before.
        """
        term = read(goal) if isinstance(goal, str) else goal
        program = self.program if program is None else program
        before = program.clauses()
        word, after, left, right, first = perform(term, FIRST, program)
        self.assertEqual(word, "change")
        used = [number for number in variables(left) + variables(right) if number not in variables(term)]
        self.assertTrue(all(FIRST <= number < first for number in used))
        if new is not None:
            self.assertEqual(first, FIRST + new)
        self.assertEqual(program.clauses(), before)
        self.assertIsInstance(after, Program)
        self.assertEqual(after.clauses(), Program(clauses(expected), []).clauses())
        self.assertIs(after.is_dynamic("d", 0), program.is_dynamic("d", 0))
        unifier = unify(left, right)
        self.assertIsNotNone(unifier)
        return shown(apply(unifier, term))

    def test_adding(self):
        self.assertEqual(self.changed("asserta(p(7))", "p(7). p(1). q(2). p(X) :- q(X). q(Y)."), "asserta(p(7))")
        self.changed("assertz(p(7))", "p(1). q(2). p(X) :- q(X). q(Y). p(7).")
        self.changed("assertz((p(X) :- X, 3, !))", "p(1). q(2). p(X) :- q(X). q(Y). p(X) :- X, 3, !.")
        self.changed("asserta(d)", "d. p(1). q(2). p(X) :- q(X). q(Y).")
        self.changed("assertz((d :- true))", "p(1). q(2). p(X) :- q(X). q(Y). d.")
        self.changed("assertz((d :- X))", "p(1). q(2). p(X) :- q(X). q(Y). d :- X.")
        self.changed(f("assertz", f(":-", f("p", v(9)), f("q", v(4), v(9)))),
                     "p(1). q(2). p(X) :- q(X). q(Y). p(X) :- q(Z, X).")

    def test_errors_in_order(self):
        for name, permission in (("asserta", "modify, static_procedure"), ("assertz", "modify, static_procedure"),
                                 ("retract", "access, private_procedure")):
            self.raises(f"{name}(X)", "instantiation_error", self.program)
            self.raises(f"{name}((X :- true))", "instantiation_error", self.program)
            self.raises(f"{name}(3)", "type_error(callable, 3)", self.program)
            self.raises(f"{name}((3 :- foo))", "type_error(callable, 3)", self.program)
            for head, place in (("q(X)", "q, 1"), ("foo", "foo, 0"), ("(a, b)", "',', 2"), ("atom(x)", "atom, 1"),
                                ("(q(X) :- p(X))", "q, 1"), ("(! :- X)", "!, 0"), ("p", "p, 0"), ("p(X, Y)", "p, 2"),
                                ("d(1)", "d, 1"), ("write(1)", "write, 1")):
                self.raises(f"{name}({head})", f"permission_error({permission}, '/'({place}))", self.program)
            self.raises(f(name, f(":-", f(":-", a("a"), a("b")), a("c"))),
                        f"permission_error({permission}, '/'(:-, 2))", self.program)

    def test_constructs_that_are_dynamic(self):
        program = read_program(":- dynamic(write, 1). :- dynamic(call, 2). :- dynamic(p, 0).")
        for name, permission in (("asserta", "modify, static_procedure"), ("assertz", "modify, static_procedure"),
                                 ("retract", "access, private_procedure")):
            self.raises(f"{name}(write(x))", f"permission_error({permission}, '/'(write, 1))", program)
            self.raises(f"{name}(call(x, y))", f"permission_error({permission}, '/'(call, 2))", program)

    def test_199_and_200_clauses(self):
        program = Program(facts(199), [("p", 1)])
        for name in ("asserta", "assertz"):
            _, after, _, _, _ = perform(f(name, f("p", i(-1))), FIRST, program)
            self.assertEqual(len(after.clauses()), 200)
            self.raises(f"{name}(p(1))", "representation_error(clauses)", after)
            self.raises(f"{name}(X)", "instantiation_error", after)
            self.raises(f"{name}(3)", "type_error(callable, 3)", after)
            self.raises(f"{name}(q)", "permission_error(modify, static_procedure, '/'(q, 0))", after)
            self.assertEqual(perform(f("retract", f("p", i(500))), FIRST, after), ("fail",))

    def test_clauses_of_200_nodes(self):
        program = Program([], [("p", 1), ("s", 1)])
        for name in ("asserta", "assertz"):
            for clause in (sized(200), f(":-", f("p", v(0)), sized(197))):
                self.assertEqual(len(clause), 200)
                word, after, _, _, _ = perform(f(name, clause), FIRST, program)
                self.assertEqual((word, len(after.clauses())), ("change", 1))
            for clause in (sized(201), f(":-", f("p", v(0)), sized(198)), sized(999)):
                with self.assertRaises(TooLarge):
                    perform(f(name, clause), FIRST, program)

    def test_retract(self):
        rest = "q(2). p(X) :- q(X). q(Y)."
        self.assertEqual(self.changed("retract(p(1))", rest), "retract(p(1))")
        self.assertEqual(self.changed("retract(p(X))", rest), "retract(p(1))")
        self.assertEqual(self.changed("retract((p(X) :- true))", rest), "retract((p(1) :- true))")
        self.assertEqual(self.changed("retract((p(X) :- Y))", rest), "retract((p(1) :- true))")
        self.assertEqual(self.changed("retract((p(7) :- Y))", "p(1). q(2). q(Y).", 1), "retract((p(7) :- q(7)))")
        self.assertEqual(self.changed("retract((p(X) :- q(Y)))", "p(1). q(2). q(Y).", 1), "retract((p(_0) :- q(_0)))")
        for goal in ("retract(p(2))", "retract((p(X) :- r(X)))", "retract(d)", "retract((p(2) :- q(3)))",
                     "retract((p(X) :- q(f(X))))"):
            self.check(goal, "fail", program=self.program)

    def test_retract_finds_several_clauses(self):
        program = Program(clauses("p(1, 2). p(X, X). p(Y, Z). p(1, 3)."), [("p", 2)])
        for goal, expected, new, found in (
                ("retract(p(A, 3))", "p(1, 2). p(Y, Z). p(1, 3).", 1, "retract(p(3,3))"),
                ("retract(p(4, 5))", "p(1, 2). p(X, X). p(1, 3).", None, "retract(p(4,5))"),
                ("retract(p(A, B))", "p(X, X). p(Y, Z). p(1, 3).", 0, "retract(p(1,2))")):
            self.assertEqual(self.changed(goal, expected, new, program), found)

    def test_retract_shares_no_variables(self):
        program = Program([f("p", v(0), v(1)), a("q")], [("p", 2)])
        goal = f("retract", f("p", f("s", v(0)), v(0)))
        self.assertEqual(self.changed(goal, "q.", 2, program), "retract(p(s(_0),_0))")

    def test_retract_too_large(self):
        program = Program([f("p", v(0), v(0), chain("s", 66, v(2)))], [("p", 3)])
        with self.assertRaises(TooLarge):
            perform(f("retract", f("p", v(0), v(0), v(0))), FIRST, program)
        with self.assertRaises(TooLarge):
            perform(f("\\=", f("p", v(0), v(0), v(0)), f("p", v(1), v(1), chain("s", 66, v(2)))), FIRST, program)


class Tabled(Performing):

    def alternatives(self, goal, program, expected, new=0):
        term = read(goal)
        word, about, found, first = perform(term, FIRST, read_program(program))
        self.assertEqual((word, about, first), ("alternatives", term[1:], FIRST + new))
        self.assertIs(type(found), list)
        self.assertEqual([shown(one) for one in found], expected)
        used = [number for one in found for number in variables(one)]
        self.assertEqual(sorted(used), list(range(FIRST, FIRST + new)))

    def test_answers_in_table_order(self):
        program = "e(b, c). e(a, b). q(X, Y) :- q(X, Z), e(Z, Y). q(X, Y) :- e(X, Y)."
        self.alternatives("tabled(q(a, X))", program, ["q(a,b)", "q(a,c)"])
        self.alternatives("tabled(q(X, Y))", program, ["q(a,b)", "q(a,c)", "q(b,c)"])
        self.alternatives("tabled(q(c, X))", program, [])
        self.alternatives("tabled(e(a, b))", program + " foo :- X, !.", ["e(a,b)"])

    def test_answers_with_variables(self):
        self.alternatives("tabled(p(X, Y))", "p(A, B). p(A, A). p(A, f(B, C)).",
                          ["p(_0,_0)", "p(_0,_1)", "p(_0,f(_1,_2))"], 6)
        _, _, found, _ = perform(read("tabled(p(X, Y))"), FIRST, read_program("p(A, B). p(A, A). p(A, f(B, C))."))
        self.assertEqual([renumber(one, FIRST) == one for one in found], [True, False, False])

    def test_wrong_goals(self):
        self.raises("tabled(X)", "instantiation_error")
        self.raises("tabled(3)", "type_error(callable, 3)")
        for name, arity in CONTROL + BUILT_IN:
            goal = f(name, *[v(k) for k in range(arity)])
            error = f("type_error", a("definite"), f("/", a(name), i(arity)))
            self.raises(f("tabled", goal), error)

    def test_predicates_without_clauses(self):
        program = read_program(":- dynamic(d, 1). p :- d(X). q :- r. r :- s(1, 2). t :- d(X), u, v.")
        self.check_fails("tabled(p)", program)
        self.check_fails("tabled(d(X))", program)
        self.raises("tabled(none)", "existence_error(procedure, '/'(none, 0))", program)
        self.raises("tabled(p(1))", "existence_error(procedure, '/'(p, 1))", program)
        self.raises("tabled(q)", "existence_error(procedure, '/'(s, 2))", program)
        self.raises("tabled(t)", "existence_error(procedure, '/'(u, 0))", program)

    def check_fails(self, goal, program):
        self.assertEqual(perform(read(goal), FIRST, program), ("alternatives", read(goal)[1:], [], FIRST))

    def test_clauses_that_are_not_definite(self):
        for body in ("X", "3", "!", "a ; b", "q, X", "q, !", "\\+ q", "write(a), q", "call(q)", "(q -> q)", "fail",
                     "tabled(q)", "q, (q, 3)"):
            program = read_program(f"p :- q. p :- {body}. q. r :- q, p, none. s(X) :- t. t :- r.")
            for goal, name in (("p", "p"), ("r", "p")):
                self.raises(f"tabled({goal})", f"type_error(definite, '/'({name}, 0))", program)
            self.check_fails_not("tabled(q)", program)

    def check_fails_not(self, goal, program):
        self.assertEqual(perform(read(goal), FIRST, program)[0], "alternatives")

    def test_the_order_in_which_predicates_are_visited(self):
        for text, error in (
                # All goals of all clauses of p are met before the next predicate is visited.
                ("p :- a. p :- b. a :- none. b :- !.", "type_error(definite, '/'(b, 0))"),
                ("p :- a. p :- b. a :- !. b :- none.", "type_error(definite, '/'(a, 0))"),
                ("p :- a, b. a :- c. b :- none. c :- !.", "type_error(definite, '/'(c, 0))"),
                ("p :- a, b. a :- none. b :- c. c :- !.", "existence_error(procedure, '/'(none, 0))"),
                ("p :- b, a. a :- none. b :- c. c :- !.", "type_error(definite, '/'(c, 0))"),
                ("p :- none, b. b :- !.", "existence_error(procedure, '/'(none, 0))"),
                ("p :- b, none. b :- !.", "type_error(definite, '/'(b, 0))"),
                ("p :- none. p :- !.", "type_error(definite, '/'(p, 0))"),
                ("p :- p, a, b, none. a :- p, b, other. b.", "existence_error(procedure, '/'(none, 0))")):
            self.raises("tabled(p)", error, read_program(text))

    def test_other_predicates_do_not_matter(self):
        program = read_program("p(a). p(X) :- p(X). q :- X. r :- none. :- dynamic(p, 1).")
        self.assertEqual(perform(read("tabled(p(X))"), FIRST, program)[2], reads("p(a)"))

    def test_large_clauses(self):
        goals = [a("true")] * 98 + [f("q", a("x"))]
        program = Program([sized(200), rule(a("p"), *goals), goals[-1]], [])
        self.assertEqual(len(rule(a("p"), *goals)), 200)
        self.assertEqual(perform(f("tabled", sized(200)), FIRST, program)[2], [sized(200)])
        self.assertEqual(perform(read("tabled(p)"), FIRST, program)[2], [a("p")])

    def test_tables_of_40_and_41_calls(self):
        program = read_program("n(z). n(s(X)) :- n(X).")
        self.assertEqual(len(perform(f("tabled", f("n", chain("s", 39, a("z")))), FIRST, program)[2]), 1)
        with self.assertRaises(TablesFull):
            perform(f("tabled", f("n", chain("s", 40, a("z")))), FIRST, program)
        with self.assertRaises(TooLarge):
            perform(f("tabled", f("n", chain("s", 400, a("z")))), FIRST, program)
        with self.assertRaises(TooLarge):
            perform(read("tabled(n(X))"), FIRST, program)


class Solve(Performing):

    def alternatives(self, goal, expected):
        term = read(goal)
        word, about, found, first = perform(term, FIRST, NO_PROGRAM)
        self.assertEqual((word, first), ("alternatives", FIRST))
        self.assertEqual(about, term[1:1 + len(about)])
        self.assertEqual([shown(one) for one in found], expected)

    def test_solutions(self):
        self.alternatives("solve([X, Y], [X in 1 .. 3, Y in 0 .. 9, X + 2 * Y < 4])",
                          ["[1,0]", "[1,1]", "[2,0]", "[3,0]"])
        self.alternatives("solve([Y, X], [X in 1 .. 3, Y in 0 .. 9, X + 2 * Y < 4])",
                          ["[0,1]", "[0,2]", "[0,3]", "[1,1]"])
        self.alternatives("solve([X], [X in 5 .. 4])", [])
        self.alternatives("solve([], [])", ["[]"])
        self.alternatives("solve([], [X in 1 .. 3])", ["[]"])
        self.alternatives("solve([], [X in 1 .. 3, X =:= 4])", [])
        self.alternatives("solve([3, -4], [])", ["[3,-4]"])

    def test_each_list_once(self):
        self.alternatives("solve([X], [X in 1 .. 2, Y in 1 .. 9])", ["[1]", "[2]"])
        self.alternatives("solve([7, X, X], [Y in 1 .. 2, X in -1 .. 0])", ["[7,-1,-1]", "[7,0,0]"])

    def test_lists(self):
        for goal in ("solve(X, [])", "solve(a, [])", "solve([X | Y], [])", "solve([], X)",
                     "solve([], [X in 1 .. 2 | Y])", "solve(X, foo)", "solve([f(X)], 3)", "solve(3, [foo])"):
            self.raises(goal, "instantiation_error")

    def test_errors_in_order(self):
        self.raises("solve([a], [foo, X in 1 .. 99])", "type_error(constraint, foo)")
        self.raises("solve([a], [X in 1 .. 99, foo])", "type_error(constraint, foo)")
        self.raises("solve([a], [X in 1 .. 99, X < 3])", "type_error(constraint, X in 1 .. 99)")
        self.raises("solve([a, X], [X in 1 .. 9])", "type_error(variable, a)")
        self.raises("solve([X, 3, f(X)], [X in 1 .. 9])", "type_error(variable, f(X))")
        self.raises(f("solve", items(v(0), v(1)), items(read("X in 1 .. 9"))), f("type_error", a("variable"), v(1)))
        self.raises("solve([X], [Y < 3, Y in 1 .. 2, Y in 1 .. 2])",
                    f("type_error", a("constraint"), f("<", v(1), i(3))))
        self.raises("solve([foo], [X in 5 .. 4])", "type_error(variable, foo)")
        self.raises("solve([7, f(3)], [])", "type_error(variable, f(3))")

    def test_200_and_201_solutions(self):
        for goal, expected in (("solve([X, Y], [X in 1 .. 50, Y in 1 .. 4])", 200),
                               ("solve([X], [X in -15 .. 50, Y in 1 .. 3])", 66),
                               ("solve([], [X in 1 .. 40, Y in 1 .. 9, Y < 6])", 1)):
            self.assertEqual(len(perform(read(goal), FIRST, NO_PROGRAM)[2]), expected)
        for goal in ("solve([X, Y], [X in -16 .. 50, Y in 1 .. 3])", "solve([], [X in -16 .. 50, Y in 1 .. 3])",
                     "solve([X], [X in 1 .. 2, Y in -50 .. 50])", "solve([], [X in -50 .. 50, Y in -50 .. 50])"):
            with self.subTest(goal), self.assertRaises(TooMany):
                perform(read(goal), FIRST, NO_PROGRAM)


class Every(unittest.TestCase):

    def test_each_built_in_predicate_with_variables(self):
        for name, arity in BUILT_IN:
            self.assertIs(is_built_in(name, arity), True)
            result = perform(f(name, *[v(k) for k in range(arity)]), FIRST, NO_PROGRAM)
            self.assertIn(result[0], ("true", "fail", "raise", "write", "unify"))

    def test_deep_terms(self):
        deep = chain("s", 990, v(0))
        for name, arity in BUILT_IN:
            if name not in ("tabled",):
                for other in (deep, left_chain("+", 400, i(1)), left_chain(".", 400, a("x"))):
                    goal = f(name, *[other, *[v(k + 5) for k in range(arity - 1)]][:arity])
                    try:
                        self.assertIsNotNone(perform(goal, FIRST, NO_PROGRAM))
                    except TooLarge:
                        self.assertIn(name, ("\\=", "retract"))
        self.assertEqual(perform(f("==", deep, deep), FIRST, NO_PROGRAM), ("true",))

    def test_results_are_apart(self):
        program = read_program("p(a).")
        perform(read("tabled(p(X))"), FIRST, program)[2].append("more")
        self.assertEqual(len(perform(read("tabled(p(X))"), FIRST, program)[2]), 1)


if __name__ == "__main__":
    unittest.main()
