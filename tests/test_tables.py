"""Points 92 to 96, and hornbook/tables.py."""

import time
import unittest

from helper import (
    BUILT_IN, CONTROL, a, chain, clauses, f, facts, i, random_clauses, random_term, read, reads, rule, seeded, shown,
    sized, v)
from hornbook.definite import head_and_goals
from hornbook.derivations import accepts, derive
from hornbook.errors import NotDefinite, TablesFull, TooLarge
from hornbook.order import compare
from hornbook.tables import MOST_ANSWERS, MOST_CALLS, closed, reason, table_answers, table_order, tables
from hornbook.terms import renumber, variables
from hornbook.unify import apply, matches, unify

LEFT = "e(a, b). q(X, Y) :- q(X, Z), e(Z, Y). q(X, Y) :- e(X, Y)."


def text(listed):
    return [(shown(call), [shown(answer) for answer in answers]) for call, answers in listed]


def apart(term, number):
    return apply({k: v(k + number) for k in variables(term)}, term)


def order_key(term):
    """Table order, word by word."""
    return [(0, node[1], "") if node[0] == "v" else (2, node[2], node[1]) for node in
            [node if isinstance(node, tuple) else ("f", str(node), -1) for node in term]]


def tables_by_words(program, query, most=8):
    """Point 93 as a fixpoint: everything is done again until nothing is new. None if there is too much."""
    pairs = [head_and_goals(clause) for clause in program]
    found = {renumber(query): {}}
    changed = True
    while changed:
        changed = False

        def solve(call, instance, goals):
            nonlocal changed
            if not goals:
                if renumber(instance) not in found[call]:
                    found[call][renumber(instance)] = True
                    changed = True
                return
            if renumber(goals[0]) not in found:
                found[renumber(goals[0])] = {}
                changed = True
            for answer in list(found[renumber(goals[0])]):
                unifier = unify(goals[0], apart(answer, 1000))
                terms = [apply(unifier, term) for term in [instance, *goals[1:]]]
                whole = renumber(f("g", *terms))
                numbered, at = [], 1
                for term in terms:
                    numbered.append(whole[at:at + len(term)])
                    at += len(term)
                solve(call, numbered[0], numbered[1:])

        for call in list(found):
            for head, goals in pairs:
                unifier = unify(call, apart(head, 500))
                if unifier is not None:
                    solve(call, apply(unifier, call), [apply(unifier, apart(goal, 500)) for goal in goals])
        if len(found) > most or sum(len(answers) for answers in found.values()) > 5 * most:
            return None
    return [(call, sorted(found[call], key=order_key)) for call in sorted(found, key=order_key)]


def size_of(derivation):
    return 1 + sum(size_of(part) for part in derivation[2])


def least_size(program, answer, most):
    """The least size of an accepted derivation of an answer, by trying all; None if it is greater than most."""
    pairs = [head_and_goals(clause) for clause in program]
    frozen = apply({k: f("frozen", i(k)) for k in variables(answer)}, answer)

    def can(goals, left):
        if not goals:
            return True
        if left < len(goals):
            return False
        for head, own in pairs:
            shift = {k: v(k + 100 * left) for term in [head, *own] for k in variables(term)}
            unifier = unify(goals[0], apply(shift, head))
            if unifier is not None:
                new = [apply(unifier, apply(shift, term)) for term in own]
                if can(new + [apply(unifier, term) for term in goals[1:]], left - 1):
                    return True
        return False

    return next((size for size in range(1, most + 1) if can([frozen], size)), None)


class TableOrder(unittest.TestCase):

    def test_the_order(self):
        ordered = [v(0), i(-7), i(0), i(10), a("[]"), a("a"), a("b"), f("a", v(0)), f("a", i(1)), f("a", a("z")),
                   f("a", f("a", v(0))), f("b", v(0)), f("a", v(0), v(0)), f("a", v(0), v(1)), f("a", v(0), i(3)),
                   f("a", f("b", v(0)), v(0)), f("a", f("b", v(0)), v(1)), f("b", a("a"), a("a"))]
        for at, left in enumerate(ordered):
            for place, right in enumerate(ordered):
                expected = (at > place) - (at < place)
                self.assertEqual(table_order(left, right), expected)

    def test_variables_are_ordered_by_number(self):
        self.assertEqual(table_order(f("p", v(0), v(1), v(2)), f("p", v(0), v(1), v(0))), 1)
        self.assertEqual(table_order(f("p", *[v(k) for k in range(8)]), f("p", *[v(0)] * 8)), 1)
        wide = f("p", f("q", *[v(k) for k in range(8)]), f("q", *[v(k) for k in range(8, 11)]), v(10))
        narrow = f("p", f("q", *[v(k) for k in range(8)]), f("q", *[v(k) for k in range(8, 11)]), v(9))
        self.assertEqual(table_order(wide, narrow), 1)
        self.assertEqual(table_order(narrow, wide), -1)

    def test_with_the_standard_order(self):
        source = seeded(92)
        for _ in range(500):
            left = renumber(random_term(source, 6, ["a", "b"]))
            right = renumber(random_term(source, 6, ["a", "b"]))
            found = table_order(left, right)
            self.assertEqual(found, -table_order(right, left))
            self.assertEqual(found == 0, left == right)
            if compare(left, right) is not None:
                self.assertEqual(found, compare(left, right))

    def test_deep_terms(self):
        self.assertEqual(table_order(chain("s", 999, v(0)), chain("s", 999, i(0))), -1)
        self.assertEqual(table_order(sized(1000), sized(1000)), 0)


class Tables(unittest.TestCase):

    def check(self, program, query, expected):
        program = clauses(program) if isinstance(program, str) else program
        found = tables(program, read(query))
        self.assertEqual(text(found), expected)
        self.assertIs(closed(program, found), True)
        self.assertEqual(table_answers(program, read(query)), dict(found)[renumber(read(query))])
        for call, answers in found:
            for answer in answers:
                derivation = reason(program, read(query), call, answer)
                self.assertIs(accepts(program, derivation), True)
                self.assertEqual(renumber(derivation[0]), answer)

    def test_the_example(self):
        self.check(LEFT, "q(a, X)", [("e(a,_0)", ["e(a,b)"]), ("e(b,_0)", []), ("q(a,_0)", ["q(a,b)"])])
        self.assertEqual(tables(clauses(LEFT), f("q", a("a"), v(9))), [
            (f("e", a("a"), v(0)), [f("e", a("a"), a("b"))]), (f("e", a("b"), v(0)), []),
            (f("q", a("a"), v(0)), [f("q", a("a"), a("b"))])])
        self.assertEqual(table_answers(clauses(LEFT), f("q", a("a"), v(9))), [f("q", a("a"), a("b"))])

    def test_queries_without_clauses(self):
        self.check("", "p(X)", [("p(_0)", [])])
        self.check("q. p(X, Y).", "p(Y)", [("p(_0)", [])])
        self.check("p :- q.", "p", [("p", []), ("q", [])])

    def test_facts(self):
        self.check("p(b). p(a). p(b). p(3).", "p(X)", [("p(_0)", ["p(3)", "p(a)", "p(b)"])])
        self.check("p(b). p(a).", "p(a)", [("p(a)", ["p(a)"])])
        self.check("p(b). p(a).", "p(c)", [("p(c)", [])])
        self.check("p(X, b). p(a, X). p(X, X).", "p(X, Y)", [("p(_0,_1)", ["p(_0,_0)", "p(_0,b)", "p(a,_0)"])])

    def test_answers_in_table_order(self):
        program = "p(f(a)). p(g(X, Y)). p(g(X, X)). p(X). p([]). p(-3). p(20). p(b). p(a(b)). p(f(Y)). p(h(c, d, e))."
        self.check(program, "p(X)", [("p(_0)", [
            "p(_0)", "p(-3)", "p(20)", "p([])", "p(b)", "p(a(b))", "p(f(_0))", "p(f(a))", "p(g(_0,_0))", "p(g(_0,_1))",
            "p(h(c,d,e))"])])

    def test_left_recursion(self):
        graph = "e(a, b). e(b, c). e(c, a). "
        expected = [f"q(a,{letter})" for letter in "abc"]
        for rules in ("q(X, Y) :- q(X, Z), e(Z, Y). q(X, Y) :- e(X, Y).",
                      "q(X, Y) :- e(X, Y). q(X, Y) :- q(X, Z), q(Z, Y).",
                      "q(X, Y) :- e(X, Z), q(Z, Y). q(X, Y) :- e(X, Y)."):
            program = clauses(graph + rules)
            self.assertEqual([shown(one) for one in table_answers(program, read("q(a, X)"))], expected)
            self.assertIs(closed(program, tables(program, read("q(a, X)"))), True)
        self.check("p :- p. p :- p, q.", "p", [("p", [])])
        self.check("p :- p. p. q.", "p", [("p", ["p"])])
        self.check("p(X) :- q(X). q(X) :- p(X). q(a).", "p(X)", [("p(_0)", ["p(a)"]), ("q(_0)", ["q(a)"])])

    def test_calls_that_are_variants(self):
        self.check("p(X, Y) :- q(X, Z), q(Z, W), q(U, Y). q(a, a).", "p(X, Y)", [
            ("p(_0,_1)", ["p(a,a)"]), ("q(_0,_1)", ["q(a,a)"]), ("q(a,_0)", ["q(a,a)"])])
        self.check("p :- q(X, X), q(X, Y), q(Y, X). q(s(Z), Z).", "p", [("p", []), ("q(_0,_0)", [])])
        self.check("p(X) :- q(Y, Y), q(Y, X). q(W, Z).", "p(X)", [
            ("p(_0)", ["p(_0)"]), ("q(_0,_0)", ["q(_0,_0)"]), ("q(_0,_1)", ["q(_0,_1)"])])

    def test_answers_with_variables(self):
        self.check("p(X, Y) :- q(X, Z), q(Y, Z). q(s(X), X). q(a, Y).", "p(X, Y)", [
            ("p(_0,_1)", ["p(a,a)", "p(a,s(_0))", "p(s(_0),a)", "p(s(_0),s(_0))"]),
            ("q(_0,_1)", ["q(a,_0)", "q(s(_0),_0)"])])
        self.check("p(X) :- q(X, Y), r(Y). q(X, X). r(f(Z, Z)).", "p(X)", [
            ("p(_0)", ["p(f(_0,_0))"]), ("r(_0)", ["r(f(_0,_0))"]), ("q(_0,_1)", ["q(_0,_0)"])])

    def test_goals_from_left_to_right(self):
        self.check("p :- q(X), r(X). q(a). q(b). r(b).", "p", [
            ("p", ["p"]), ("q(_0)", ["q(a)", "q(b)"]), ("r(a)", []), ("r(b)", ["r(b)"])])
        self.check("p :- r(X), q(X). q(a). q(b). r(b).", "p", [("p", ["p"]), ("q(b)", ["q(b)"]), ("r(_0)", ["r(b)"])])
        self.check("p :- true, r, true, q. q.", "p", [("p", []), ("r", [])])

    def test_tables_end_although_resolution_does_not(self):
        program = clauses("p(X) :- p(X). p(s(X)) :- p(s(X)). p(a). p(X) :- q(X). q(X) :- p(X), q(X).")
        self.assertIs(derive(program, read("p(X)"), 3000)[1], False)
        self.assertEqual([shown(one) for one in table_answers(program, read("p(X)"))], ["p(a)"])

    def test_mutual_recursion(self):
        self.check("even(z). even(s(X)) :- odd(X). odd(s(X)) :- even(X).", "even(s(s(s(z))))", [
            ("even(s(z))", []), ("even(s(s(s(z))))", []), ("odd(z)", []), ("odd(s(s(z)))", [])])
        self.check("even(z). even(s(X)) :- odd(X). odd(s(X)) :- even(X).", "even(s(s(z)))", [
            ("even(z)", ["even(z)"]), ("even(s(s(z)))", ["even(s(s(z)))"]), ("odd(s(z))", ["odd(s(z))"])])

    def test_40_calls(self):
        self.assertEqual((MOST_CALLS, MOST_ANSWERS), (40, 200))
        program = clauses("p(z). p(s(X)) :- p(X).")
        self.assertEqual(len(tables(program, f("p", chain("s", 39, a("z"))))), 40)
        for count in (40, 41, 90):
            with self.assertRaises(TablesFull):
                tables(program, f("p", chain("s", count, a("z"))))
        program = [rule(a("t"), f("p", v(0)), f("q", v(0)))] + facts(38)
        self.assertEqual(len(tables(program, a("t"))), 40)
        for function in (tables, table_answers, lambda *given: reason(*given, a("t"), a("t"))):
            with self.assertRaises(TablesFull):
                function(program + [f("p", i(38))], a("t"))

    def test_200_answers(self):
        self.assertEqual(table_answers(facts(200), f("p", v(5))), facts(200))
        squares = [rule(f("t", v(0), v(1)), f("p", v(0)), f("p", v(1))), rule(a("u"), f("t", v(0), v(1)), f("r", v(2)))]
        more = [f("r", i(number)) for number in range(17)]
        found = tables(squares + facts(13) + more, a("u"))
        self.assertEqual(sum(len(answers) for _, answers in found), 200)
        self.assertEqual([len(answers) for _, answers in found], [1, 13, 17, 169])
        for function in (tables, table_answers, lambda *given: reason(*given, a("u"), a("u"))):
            with self.assertRaises(TablesFull):
                function(squares + facts(13) + more + [f("r", i(17))], a("u"))
        with self.assertRaises(TablesFull):
            tables(squares + facts(15), f("t", v(0), v(1)))
        # The same answer again is not one more.
        again = [rule(f("p", v(0)), f("p", v(0)))]
        self.assertEqual(len(table_answers(facts(199) + again, f("p", v(5)))), 199)

    def test_tables_that_are_not_finite(self):
        for program, query in (("n(z). n(s(X)) :- n(X).", "n(X)"), ("p(X) :- p(s(X)).", "p(a)"),
                               ("p(X) :- p(f(X, X)).", "p(X)"), ("n(z). n(f(X, X)) :- n(X).", "n(X)")):
            with self.assertRaises(TooLarge):
                tables(clauses(program), read(query))
        self.assertTrue(issubclass(TablesFull, TooLarge))

    def test_wide_joins_end_soon(self):
        begin = time.process_time()
        with self.assertRaises(TablesFull):
            tables([rule(f("t", *[v(k) for k in range(8)]), *[f("p", v(k)) for k in range(8)])] + facts(190),
                   f("t", *[v(k) for k in range(8)]))
        program = [rule(a("t"), *[f("p", v(k)) for k in range(60)])] + facts(100)
        self.assertEqual(table_answers(program, a("t")), [a("t")])
        self.assertLess(time.process_time() - begin, 30)

    def test_200_nodes(self):
        self.assertEqual(tables([], sized(200)), [(sized(200), [])])
        self.assertEqual(len(table_answers([sized(200)], sized(200))), 1)
        for query in (sized(201), sized(1000)):
            for function in (tables, table_answers, lambda *given: reason(*given, a("u"), a("u"))):
                with self.assertRaises(TooLarge):
                    function([], query)
        # A call that has 200 or 201 nodes.
        program = [rule(f("p", v(0)), f("q", v(0), a("x")))]
        self.assertEqual(len(tables(program, f("p", chain("s", 197, a("z"))))), 2)
        with self.assertRaises(TooLarge):
            tables(program, f("p", chain("s", 198, a("z"))))
        # An answer that has 199, 200 or 201 nodes.
        for more in (98, 99):
            for extra in (0, 1):
                half = chain("s", more, a("z"))
                symbol = [a("x")] * extra
                program = [rule(f("p", v(0), v(1), *symbol), f("q", v(0)), f("q", v(1))), f("q", half)]
                query = f("p", v(0), v(1), *[v(2)] * extra)
                if 1 + 2 * len(half) + extra <= 200:
                    self.assertEqual([len(one) for one in table_answers(program, query)], [199 + extra])
                else:
                    with self.assertRaises(TooLarge):
                        tables(program, query)

    def test_too_large_in_the_unification(self):
        query = f("q", v(0), v(0), v(0))
        self.assertEqual(len(table_answers([f("q", v(0), v(0), chain("s", 65, v(2)))], query)), 1)
        with self.assertRaises(TooLarge):
            tables([f("q", v(0), v(0), chain("s", 66, v(2)))], query)

    def test_not_definite(self):
        for name, arity in CONTROL + BUILT_IN:
            goal = f(name, *[v(k) for k in range(arity)])
            for function in (tables, table_answers, lambda *given: reason(*given, a("u"), a("u"))):
                with self.subTest(goal), self.assertRaises(NotDefinite):
                    function([a("p")], goal)
        for program in ([a("p"), v(0)], [i(3)], clauses("p :- X."), clauses("p :- q, !."), facts(201), [sized(201)]):
            for function in (tables, table_answers, lambda *given: reason(*given, a("u"), a("u"))):
                for query in (a("p"), sized(201)):
                    with self.assertRaises(NotDefinite):
                        function(program, query)
            for value in ([], None, [(a("p"), [])]):
                with self.assertRaises(NotDefinite):
                    closed(program, value)
        for query in (v(0), i(3)):
            with self.assertRaises(NotDefinite):
                tables([], query)

    def test_nothing_is_shared(self):
        program = clauses(LEFT)
        first = tables(program, read("q(a, X)"))
        for _, answers in first:
            answers.append("more")
        first.append("more")
        table_answers(program, read("q(a, X)")).append("more")
        self.assertEqual(len(tables(program, read("q(a, X)"))), 3)
        self.assertEqual(program, clauses(LEFT))

    def test_against_the_words(self):
        source = seeded(93)
        many = 0
        for _ in range(400):
            program = random_clauses(source, source.randrange(1, 7))
            query = head_and_goals(program[-1])[0]
            try:
                expected = tables_by_words(program, query)
            except TooLarge:
                continue
            if expected is None:
                continue
            found = tables(program, query)
            self.assertEqual(found, expected)
            self.assertIs(closed(program, found), True)
            self.assertEqual(table_answers(program, query), dict(expected)[renumber(query)])
            derivations, complete = derive(program, query, 60)
            answers = {renumber(derivation[0]) for derivation in derivations}
            self.assertTrue(answers <= set(dict(expected)[renumber(query)]))
            if complete:
                self.assertEqual(answers, set(dict(expected)[renumber(query)]))
            many += len(answers)
        self.assertGreater(many, 150)


class Closed(unittest.TestCase):

    def setUp(self):
        self.program = clauses(LEFT + " p(X, Y). p(a, b).")
        self.tables = tables(self.program, read("q(a, X)"))
        self.other = (read("p(X, Y)"), reads("p(X, Y)", "p(a, b)"))
        self.listed = self.tables[:2] + [self.other] + self.tables[2:]

    def check(self, listed, expected):
        with self.subTest(listed):
            self.assertIs(closed(self.program, listed), expected)

    def test_closed_lists(self):
        self.check(self.tables, True)
        self.check(self.listed, True)
        self.check([], True)
        self.check(self.tables[:2], True)
        self.check(self.tables[1:2], True)
        self.check([self.other], True)

    def test_one_table_left_out(self):
        for at in range(3):
            self.check(self.tables[:at] + self.tables[at + 1:], at == 2)

    def test_one_answer_left_out(self):
        for at, (call, answers) in enumerate(self.listed):
            for place in range(len(answers)):
                less = (call, answers[:place] + answers[place + 1:])
                self.check(self.listed[:at] + [less] + self.listed[at + 1:], False)

    def test_more_tables(self):
        self.check([*self.listed[:2], (read("e(c, X)"), []), *self.listed[2:]], True)
        self.check([(read("e(X, Y)"), []), *self.listed], False)
        self.check([(read("e(X, Y)"), reads("e(a, b)")), *self.listed], True)
        self.check([(read("z"), []), *self.listed], True)
        self.check([*self.listed, (read("z"), [])], False)
        self.check([*self.listed, (read("q(b, X)"), [])], True)
        self.check([*self.listed, (read("q(c, X)"), [])], False)

    def test_more_answers(self):
        # Answers that do not follow may be in it, if everything that they lead to is in it, too.
        tables_then = [self.tables[0], (read("e(b, X)"), reads("e(b, c)")), (read("e(c, X)"), []),
                       (read("q(a, X)"), reads("q(a, b)", "q(a, c)"))]
        self.check(tables_then, True)
        self.check([tables_then[0], tables_then[1], tables_then[3]], False)
        self.check(tables_then[:3] + [(read("q(a, X)"), reads("q(a, b)"))], False)
        self.check([(read("p(X, Y)"), reads("p(X, X)", "p(X, Y)", "p(a, b)"))], True)

    def test_not_in_order_or_twice(self):
        first, second, third, fourth = self.listed
        self.check([second, first, third, fourth], False)
        self.check([first, second, fourth, third], False)
        self.check([first, first, second, third, fourth], False)
        self.check([*self.listed, fourth], False)
        call, answers = self.other
        self.check([(call, answers[::-1])], False)
        self.check([(call, answers + answers[1:])], False)
        self.check([(call, answers[:1] + answers)], False)

    def test_not_renumbered(self):
        self.check([(f("p", v(1), v(0)), self.other[1])], False)
        self.check([(f("p", v(0), v(2)), self.other[1])], False)
        self.check([(self.other[0], [f("p", v(1), v(0)), self.other[1][1]])], False)
        self.check([(self.other[0], [f("p", v(1), v(2)), self.other[1][1]])], False)

    def test_no_instances_of_the_call(self):
        self.check([(read("z(a, X)"), [])], True)
        self.check([(read("z(a, X)"), reads("z(a, c)"))], True)
        for answer in ("z(b, c)", "z(X, c)", "z(X, X)", "z(a)", "q(a, c)", "z"):
            self.check([(read("z(a, X)"), reads(answer))], False)
        self.check([(f("z", v(0), v(0)), [f("z", v(0), v(1))])], False)
        self.check([(f("z", v(0), v(1)), [f("z", v(0), v(0)), f("z", v(0), v(1))])], True)

    def test_wrong_kinds(self):
        call, answers = self.other
        for value in (None, True, 3, "abc", (), tuple(self.listed), (self.other,), [None], [3], ["ab"], [()], [[]],
                      [list(self.other)], [self.other + (3,)], [(call,)], [(call, tuple(answers))], [(call, None)],
                      [(list(call), answers)], [(call, [list(answer) for answer in answers])], [(call, answers + [3])],
                      [(call, [None] + answers)], [("p", answers)], [(v(0), [])], [(i(3), [])], [((), [])],
                      [(answers, call)],
                      [(call[:1], [])], [(call + call, [])], [((("f", "p", True), ("v", 0)), [])], [self.listed],
                      [(call, answers, answers)], [((("v", 0),), [(("v", 0),)])]):
            self.check(value, False)

    def test_callable_terms(self):
        self.check([(a("true"), []), (f("!", v(0)), []), (f("call", v(0)), [f("call", a("x"))])], True)

    def test_more_calls_and_answers_than_tables_may_have(self):
        program = facts(150)
        listed = [(one, [one]) for one in facts(150)]
        self.assertIs(closed(program, listed), True)
        self.assertIs(closed(program, [(f("p", v(0)), facts(150)), *listed]), True)
        self.assertIs(closed(program, [(f("p", v(0)), facts(149)), *listed]), False)

    def test_terms_of_more_than_200_nodes(self):
        for more, expected in ((98, True), (99, False)):
            half = chain("s", more, a("z"))
            program = [rule(f("p", v(0), v(1)), f("q", v(0)), f("q", v(1))), f("q", half)]
            listed = [(f("q", v(0)), [f("q", half)]), (f("p", v(0), v(1)), [f("p", half, half)])]
            self.assertIs(closed(program, listed), expected)
        program = [f("q", v(0), v(0), chain("s", 66, v(2)))]
        whole = f("q", *[chain("s", 66, v(0))] * 3)
        self.assertIs(closed(program, [(f("q", v(0), v(0), v(0)), [whole])]), False)

    def test_the_list_is_not_changed(self):
        before = [(call, list(answers)) for call, answers in self.listed]
        self.check(self.listed, True)
        self.assertEqual(self.listed, before)

    def test_random_lists(self):
        """A list that is closed has all answers of its calls."""
        source = seeded(96)
        checked = 0
        for _ in range(600):
            program = random_clauses(source, source.randrange(1, 5))
            query = head_and_goals(program[-1])[0]
            try:
                listed = tables(program, query)
            except TooLarge:
                continue
            call, answers = listed[source.randrange(len(listed))]
            if answers:
                dropped = source.choice(answers)
                less = [(one, [answer for answer in found if (one, answer) != (call, dropped)])
                        for one, found in listed]
                self.assertIs(closed(program, less), False)
                checked += 1
            others = [table for table in listed if table[0] != call]
            if call != renumber(query):
                self.assertIs(closed(program, others), False)
        self.assertGreater(checked, 100)


class Reason(unittest.TestCase):

    def test_the_smallest_one(self):
        program = clauses("p(X) :- q(X), q(X). p(X) :- r(X). p(X) :- q(X), s. q(a). s. r(X) :- t(X), s, s. t(a).")
        self.assertEqual(reason(program, read("p(X)"), read("p(X)"), read("p(a)")),
                         (read("p(a)"), 0, ((read("q(a)"), 3, ()), (read("q(a)"), 3, ()))))
        program = clauses("p(X) :- q(X), q(X). p(X) :- r(X). q(a). r(a).")
        self.assertEqual(reason(program, read("p(X)"), read("p(X)"), read("p(a)")),
                         (read("p(a)"), 1, ((read("r(a)"), 3, ()),)))

    def test_an_instance_of_a_more_general_answer(self):
        program = clauses("p(a) :- q, q, q. q. p(X) :- q. p(b).")
        answers = table_answers(program, read("p(X)"))
        self.assertEqual([shown(one) for one in answers], ["p(_0)", "p(a)", "p(b)"])
        sizes = [size_of(reason(program, read("p(X)"), read("p(X)"), one)) for one in answers]
        self.assertEqual(sizes, [2, 2, 1])
        self.assertEqual(reason(program, read("p(X)"), read("p(X)"), read("p(a)")),
                         (read("p(a)"), 2, ((a("q"), 1, ()),)))

    def test_every_call(self):
        program = clauses(LEFT)
        query = read("q(a, X)")
        edge = (read("e(a, b)"), 0, ())
        self.assertEqual(reason(program, query, read("q(a, X)"), read("q(a, b)")), (read("q(a, b)"), 2, (edge,)))
        self.assertEqual(reason(program, query, read("e(a, X)"), read("e(a, b)")), edge)

    def test_no_such_answer(self):
        program = clauses(LEFT)
        query = read("q(a, X)")
        for call, answer in (("q(a, X)", "q(a, c)"), ("q(b, X)", "q(b, c)"), ("e(b, X)", "e(b, c)"),
                             ("q(X, Y)", "q(a, b)"), ("e(X, Y)", "e(a, b)"), ("e(b, X)", "e(a, b)"),
                             ("q(a, b)", "q(a, b)"), ("q(a, X)", "q(a, X)"), ("z", "z"), ("q(a, X)", "e(a, b)")):
            self.assertIsNone(reason(program, query, read(call), read(answer)))
        self.assertIsNone(reason([], a("p"), a("p"), a("p")))

    def test_the_numbering(self):
        program = clauses("p(X, Y) :- q(Z, Y), r(W, Z). q(A, B) :- t(C, A). t(D, E). r(F, G).")
        self.assertEqual(reason(program, f("p", v(7), v(3)), f("p", v(0), v(1)), f("p", v(0), v(1))), (
            f("p", v(0), v(1)), 0,
            ((f("q", v(2), v(1)), 1, ((f("t", v(3), v(2)), 2, ()),)), (f("r", v(4), v(2)), 3, ()))))

    def test_60_derivations(self):
        program = [rule(f("p", f("s", v(0))), f("p", v(0))), f("p", a("z"))]
        query = f("p", chain("s", 39, a("z")))
        self.assertEqual(size_of(reason(program, query, query, query)), 40)
        for count in (58, 59, 60, 61):
            program = [rule(a("p"), *[a("q")] * count), a("q")]
            if count < 60:
                found = reason(program, a("p"), a("p"), a("p"))
                self.assertEqual(size_of(found), count + 1)
                self.assertIs(accepts(program, found), True)
            else:
                with self.assertRaises(TooLarge):
                    reason(program, a("p"), a("p"), a("p"))
                self.assertEqual(size_of(reason(program, a("p"), a("q"), a("q"))), 1)

    def test_depth_60(self):
        doubling = [rule(f("d", i(k + 1)), f("d", i(k))) for k in range(38)] + [f("d", i(0))]
        found = reason(doubling, f("d", i(38)), f("d", i(38)), f("d", i(38)))
        self.assertEqual(size_of(found), 39)
        tree = [rule(f("d", i(k + 1)), f("d", i(k)), f("d", i(k))) for k in range(30)] + [f("d", i(0))]
        self.assertEqual(size_of(reason(tree, f("d", i(4)), f("d", i(4)), f("d", i(4)))), 31)
        for top in (5, 30):
            with self.assertRaises(TooLarge):
                reason(tree, f("d", i(top)), f("d", i(top)), f("d", i(top)))

    def test_instances_that_are_larger_than_the_tables_need(self):
        program = [rule(a("p"), f("q", v(0), v(1)), f("r", v(1))), f("q", f("t", v(0), v(0), v(0)), v(0)),
                   f("r", chain("s", 70, a("z")))]
        self.assertEqual(table_answers(program, a("p")), [a("p")])
        found = reason(program, a("p"), a("p"), a("p"))
        self.assertEqual(len(found[2][0][0]), 2 + 4 * 71)
        self.assertIs(accepts(program, found), True)

    def test_against_all_derivations(self):
        source = seeded(95)
        compared = 0
        for _ in range(500):
            program = random_clauses(source, source.randrange(2, 7))
            query = head_and_goals(program[-1])[0]
            try:
                listed = tables(program, query)
            except TooLarge:
                continue
            for call, answers in listed[:4]:
                for answer in answers[:4]:
                    found = reason(program, query, call, answer)
                    self.assertIs(accepts(program, found), True)
                    self.assertEqual(found[0], answer)
                    if size_of(found) <= 6:
                        self.assertEqual(least_size(program, answer, 6), size_of(found))
                        compared += 1
        self.assertGreater(compared, 150)


if __name__ == "__main__":
    unittest.main()
