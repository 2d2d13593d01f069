"""Points 32 and 34 to 36, and hornbook/derivations.py."""

import time
import unittest

from helper import (
    BUILT_IN, CONTROL, a, chain, clauses, f, facts, i, random_clauses, read, rule, seeded, shown, sized, v)
from hornbook.definite import head_and_goals
from hornbook.derivations import MOST_DEPTH, accepts, derive, follows
from hornbook.errors import NotAccepted, NotDefinite, TooLarge
from hornbook.terms import renumber, variables
from hornbook.unify import apply, matches, unify

EDGE = "e(a, b). p(X) :- e(X, Y)."
DOWN = [rule(f("p", f("s", v(0))), f("p", v(0))), f("p", a("z"))]


def text(derivation):
    instance, index, parts = derivation
    return (shown(instance), index, *[text(part) for part in parts])


def nested(depth, wrap):
    """The derivation of p(s(s(..z))) that has this depth; `wrap` changes the innermost one."""
    found = wrap((f("p", a("z")), 1, ()))
    for count in range(1, depth):
        found = (f("p", chain("s", count, a("z"))), 0, (found,))
    return found


def instances(derivation):
    found = [derivation[0]]
    for part in derivation[2]:
        found += instances(part)
    return found


def depth_of(derivation):
    return 1 + max([depth_of(part) for part in derivation[2]], default=0)


def derive_by_words(program, query, steps):
    """Point 34 with plain recursion: all instances of a path are instantiated in each step."""
    pairs = [head_and_goals(clause) for clause in program]
    found, state = [], {"steps": steps, "complete": True, "stopped": False}

    def build(done):
        instance, index, count = done.pop(0)
        return (instance, index, tuple([build(done) for _ in range(count)]))

    def search(done, waiting):
        if not waiting:
            whole = renumber(f("g", *[instance for instance, _, _ in done]))
            at, numbered = 1, []
            for instance, index, count in done:
                numbered.append((whole[at:at + len(instance)], index, count))
                at += len(instance)
            found.append(build(numbered))
            return
        (goal, depth), rest = waiting[0], waiting[1:]
        used = [k for term in [step[0] for step in done] + [w[0] for w in waiting] for k in variables(term)]
        for index, (head, goals) in enumerate(pairs):
            shift = {k: v(k + max(used, default=-1) + 1)
                     for term in [head, *goals] for k in variables(term)}
            unifier = unify(goal, apply(shift, head))
            if unifier is None:
                continue
            if state["steps"] == 0:
                state["stopped"] = True
            if state["stopped"]:
                return
            state["steps"] -= 1
            new = [(apply(shift, term), depth + 1) for term in goals]
            done_then = [(apply(unifier, term), at, count) for term, at, count in done + [(goal, index, len(goals))]]
            waiting_then = [(apply(unifier, term), at) for term, at in new + rest]
            if any(len(row[0]) > 200 for row in done_then + waiting_then):
                raise TooLarge("")
            if goals and depth == 60:
                state["complete"] = False
                continue
            search(done_then, waiting_then)

    search([], [(query, 1)])
    return found, state["complete"] and not state["stopped"]


class Derive(unittest.TestCase):

    def check(self, program, query, steps, expected, complete=True):
        found, all_found = derive(program, query, steps)
        self.assertEqual([text(one) for one in found], expected)
        self.assertIs(all_found, complete)
        for one in found:
            self.assertIs(accepts(program, one), True)
            self.assertIsNotNone(matches(query, one[0]))

    def test_the_example(self):
        expected = ([(f("p", a("a")), 1, ((f("e", a("a"), a("b")), 0, ()),))], True)
        for steps in (2, 3, 8, 9, 10, 1000):
            self.assertEqual(derive(clauses(EDGE), f("p", v(0)), steps), expected)
        self.assertIs(type(derive(clauses(EDGE), f("p", v(0)), 9)), tuple)

    def test_steps_at_the_bound(self):
        for steps in (0, 1):
            self.assertEqual(derive(clauses(EDGE), f("p", v(0)), steps), ([], False))
        program = clauses("p(a). p(b). p(c).")
        for steps in range(5):
            self.check(program, f("p", v(0)), steps, [(f"p({x})", k) for k, x in enumerate("abc")][:steps], steps >= 3)

    def test_no_steps(self):
        self.check(clauses("p(a)."), read("p(b)"), 0, [])
        self.check([], read("p(b)"), 0, [])
        self.check(clauses("p(a)."), read("p(a)"), 0, [], False)
        # The second goal has no step any more, so the search has come to its end.
        self.check(clauses("p(X) :- q(X), r(X). q(a). q(b)."), read("p(X)"), 3, [])
        self.check(clauses("p(X) :- q(X), r(X). q(a). q(b)."), read("p(X)"), 2, [], False)

    def test_the_order_of_the_answers(self):
        program = clauses("p(X, Y) :- q(X), q(Y). p(c, c). q(a). q(b).")
        expected = [("p(a,a)", 0, ("q(a)", 2), ("q(a)", 2)), ("p(a,b)", 0, ("q(a)", 2), ("q(b)", 3)),
                    ("p(b,a)", 0, ("q(b)", 3), ("q(a)", 2)), ("p(b,b)", 0, ("q(b)", 3), ("q(b)", 3)), ("p(c,c)", 1)]
        self.check(program, read("p(X, Y)"), 100, expected)
        self.check(program, read("p(X, Y)"), 8, expected)
        self.check(program, read("p(X, Y)"), 7, expected[:4], False)
        self.check(program, read("p(X, Y)"), 4, expected[:2], False)
        self.check(program, read("p(X, X)"), 100, [expected[0], expected[3], expected[4]])

    def test_the_same_answer_twice(self):
        self.check(clauses("p(a). p(X). p(a)."), read("p(a)"), 10, [("p(a)", 0), ("p(a)", 1), ("p(a)", 2)])

    def test_left_out_goals(self):
        self.check(clauses("p :- true, q, true. q :- true. r."), read("p"), 10, [("p", 0, ("q", 1))])

    def test_later_goals_instantiate_earlier_ones(self):
        self.check(clauses("p :- q(X), r(X). q(s(Y)). r(s(a))."), read("p"), 10,
                   [("p", 0, ("q(s(a))", 1), ("r(s(a))", 2))])

    def test_the_numbering(self):
        program = clauses("p(X, Y) :- q(Z, Y), r(W, Z). q(A, B) :- t(C, A). t(D, E). r(F, G).")
        found, _ = derive(program, f("p", v(7), v(3)), 10)
        self.assertEqual(found, [(f("p", v(0), v(1)), 0, (
            (f("q", v(2), v(1)), 1, ((f("t", v(3), v(2)), 2, ()),)), (f("r", v(4), v(2)), 3, ())))])

    def test_a_resolution_that_does_not_end(self):
        program = clauses("p(X) :- p(s(X)). p(a).")
        for steps in (0, 1, 30):
            self.assertEqual(derive(program, read("p(b)"), steps), ([], False))
        program = clauses("q(X) :- q(X), q(X). q(X).")
        self.assertEqual(derive(program, read("q(a)"), 500), ([], False))

    def test_long_searches(self):
        begin = time.process_time()
        found, complete = derive(clauses("p :- p, p. p."), a("p"), 6000)
        self.assertEqual((found, complete), ([], False))
        found, complete = derive([rule(a("p"), *[a("q")] * 60), rule(a("q"), *[a("r")] * 60), a("r")], a("p"), 9000)
        self.assertEqual((len(found), complete), (1, True))
        self.assertEqual(len(instances(found[0])), 3661)
        self.assertLess(time.process_time() - begin, 30)

    def test_depth_60(self):
        self.assertEqual(MOST_DEPTH, 60)
        for count in (0, 1, 58, 59):
            found, complete = derive(DOWN, f("p", chain("s", count, a("z"))), 1000)
            self.assertEqual([depth_of(one) for one in found], [count + 1])
            self.assertIs(complete, True)
            self.assertIs(accepts(DOWN, found[0]), True)
        for count in (60, 61, 100):
            self.assertEqual(derive(DOWN, f("p", chain("s", count, a("z"))), 1000), ([], False))

    def test_behind_a_path_that_is_too_deep(self):
        query = f("p", chain("s", 80, a("z")))
        self.check(DOWN + [f("p", v(0))], query, 1000,
                   [text(derivation) for derivation in self.shortened(80)], False)

    def shortened(self, count):
        """The derivations of p(s(..z)) that end with the fact p(X), the deepest one first."""
        for inner in range(count - 59, count + 1):
            found = (f("p", chain("s", inner, a("z"))), 2, ())
            for outer in range(inner + 1, count + 1):
                found = (f("p", chain("s", outer, a("z"))), 0, (found,))
            yield found

    def test_a_step_that_goes_too_deep_counts(self):
        query = f("p", chain("s", 70, a("z")))
        program = [DOWN[0], f("p", chain("s", 11, a("z")))]
        # 59 steps lead to the goal at depth 60, the 60th one is not continued, the 61st one answers.
        self.assertEqual(derive(program, query, 59), ([], False))
        self.assertEqual(derive(program, query, 60), ([], False))
        found, complete = derive(program, query, 61)
        self.assertEqual(([depth_of(one) for one in found], complete), ([60], False))
        # The depth is that of the goal, not the number of steps: the second goal is not deep.
        program = clauses("t :- p(X), u. u. p(z). p(s(X)) :- p(X).")
        for steps, count in ((178, 59), (1000, 59), (177, 59), (174, 58)):
            found, complete = derive(program, a("t"), steps)
            self.assertEqual((len(found), complete), (count, False))

    def test_too_large(self):
        double = clauses("p(X) :- q(X, X). q(s(X), X).")
        self.assertEqual(derive(double, read("p(X)"), 10), ([], True))
        head = rule(f("p", v(0), v(1)), f("q", v(0)), f("q", v(1)))
        found, complete = derive([head, f("q", chain("s", 98, v(1)))], f("p", v(0), v(1)), 10)
        self.assertEqual(([len(one[0]) for one in found], complete), ([199], True))
        program = [head, f("q", chain("s", 99, v(1)))]
        self.assertEqual(derive(program, f("p", v(0), v(1)), 2), ([], False))
        for steps in (3, 10):
            with self.assertRaises(TooLarge):
                derive(program, f("p", v(0), v(1)), steps)
        program[0] = rule(f("p", v(0), v(1), a("x")), f("q", v(0)), f("q", v(1)))
        program[1] = f("q", chain("s", 98, v(1)))
        self.assertEqual([len(one[0]) for one in derive(program, f("p", v(0), v(1), v(2)), 10)[0]], [200])

    def test_too_large_in_the_unification(self):
        program = [f("q", v(0), v(0), chain("s", 66, v(2)))]
        self.assertEqual(derive([a("r")], f("q", v(0), v(0), v(0)), 10), ([], True))
        with self.assertRaises(TooLarge):
            derive(program, f("q", v(0), v(0), v(0)), 10)
        self.assertEqual(len(derive([f("q", v(0), v(0), chain("s", 65, v(2)))], f("q", v(0), v(0), v(0)), 10)[0]), 1)

    def test_too_large_in_an_instance_of_the_path(self):
        # The query and the goals stay small, but not the instance of q.
        program = [rule(a("p"), f("q", v(0), v(1)), f("r", v(0))), f("q", v(0), f("t", v(0), v(0)))]
        for count in (65, 66, 67):
            whole = program + [f("r", chain("s", count, a("z")))]
            size = 2 + 3 * (count + 1)
            if size <= 200:
                found, _ = derive(whole, a("p"), 10)
                self.assertEqual(max(len(one) for one in instances(found[0])), size)
            else:
                self.assertEqual(derive(whole, a("p"), 2), ([], False))
                with self.assertRaises(TooLarge):
                    derive(whole, a("p"), 3)

    def test_queries_of_more_than_200_nodes(self):
        self.assertEqual(derive(clauses("p. q."), sized(1000), 5), ([], True))
        program = [f("s", v(0))]
        self.assertEqual(len(derive(program, sized(200), 5)[0]), 1)
        self.assertEqual(derive(program, sized(201), 0), ([], False))
        with self.assertRaises(TooLarge):
            derive(program, sized(201), 1)

    def test_not_definite(self):
        for name, arity in CONTROL + BUILT_IN:
            goal = f(name, *[v(k) for k in range(arity)])
            with self.subTest(goal), self.assertRaises(NotDefinite):
                derive([a("p")], goal, 5)
        wrong_programs = ([a("p"), v(0)], [i(3)], clauses("p :- X."), clauses("p :- q, !."), facts(201), [sized(201)],
                          clauses("p :- q ; r."), [a("true")])
        for program in wrong_programs:
            for steps in (0, 9):
                with self.subTest(program[:2]), self.assertRaises(NotDefinite):
                    derive(program, a("p"), steps)
            with self.assertRaises(NotDefinite):
                accepts(program, 3)
            with self.assertRaises(NotDefinite):
                follows(program, 3)
        for query in (v(0), i(1)):
            with self.assertRaises(NotDefinite):
                derive(facts(2), query, 0)

    def test_not_definite_comes_first(self):
        large = [f("q", v(0), v(0), chain("s", 66, v(2)))]
        query = f("q", v(0), v(0), v(0))
        with self.assertRaises(TooLarge):
            derive(large, query, 10)
        for wrong in (a("!"), v(0), rule(a("p"), i(3)), sized(201)):
            with self.assertRaises(NotDefinite):
                derive(large + [wrong], query, 10)

    def test_200_clauses(self):
        found, complete = derive(facts(200), f("p", v(0)), 1000)
        self.assertEqual([one for one, _, _ in found], facts(200))
        self.assertEqual([index for _, index, _ in found], list(range(200)))
        self.assertIs(complete, True)

    def test_nothing_changes(self):
        program, query = clauses(EDGE), f("p", v(0))
        first = derive(program, query, 9)
        first[0].append("more")
        self.assertEqual(program, clauses(EDGE))
        self.assertEqual(len(derive(program, query, 9)[0]), 1)

    def test_against_the_words(self):
        source = seeded(34)
        answers = 0
        for _ in range(600):
            program = random_clauses(source, source.randrange(1, 6))
            query = head_and_goals(program[-1])[0]
            steps = source.choice((0, 1, 2, 5, 20, 60))
            try:
                expected = derive_by_words(program, query, steps)
            except TooLarge:
                with self.assertRaises(TooLarge):
                    derive(program, query, steps)
                continue
            found = derive(program, query, steps)
            self.assertEqual(found, expected)
            answers += len(found[0])
            for one in found[0]:
                self.assertIs(accepts(program, one), True)
                self.assertEqual(follows(program, one), one[0])
        self.assertGreater(answers, 300)


class Accepts(unittest.TestCase):

    def setUp(self):
        self.program = clauses("e(a, b). p(X) :- e(X, Y), q(Y, s(X)). q(X, Y). r. t(X, X).")
        self.edge = (read("e(a, b)"), 0, ())
        self.fact = (read("q(b, s(a))"), 2, ())
        self.whole = (read("p(a)"), 1, (self.edge, self.fact))

    def accepted(self, value, expected=True):
        with self.subTest(value):
            self.assertIs(accepts(self.program, value), expected)
            if expected:
                self.assertEqual(follows(self.program, value), renumber(value[0]))
            else:
                with self.assertRaises(NotAccepted):
                    follows(self.program, value)

    def test_accepted(self):
        for value in (self.edge, self.fact, self.whole, (a("r"), 3, ()), (f("q", v(5), v(2)), 2, ()),
                      (f("t", f("s", v(9)), f("s", v(9))), 4, ())):
            self.accepted(value)
        self.assertEqual(follows(self.program, (f("q", v(5), v(2)), 2, ())), f("q", v(0), v(1)))

    def test_one_thing_wrong(self):
        edge, fact, whole = self.edge, self.fact, self.whole
        for value in (
                (read("p(b)"), 1, (edge, fact)), (read("q(a)"), 1, (edge, fact)), (f("p", v(0)), 1, (edge, fact)),
                (read("p(a)"), 0, (edge, fact)), (read("p(a)"), 2, (edge, fact)), (read("p(a)"), 5, (edge, fact)),
                (read("p(a)"), -4, (edge, fact)), (read("p(a)"), True, (edge, fact)), (read("p(a)"), "1", (edge, fact)),
                (read("p(a)"), None, (edge, fact)), (read("p(a)"), 10 ** 30, (edge, fact)),
                (read("p(a)"), 1, ()), (read("p(a)"), 1, (edge,)), (read("p(a)"), 1, (edge, fact, fact)),
                (read("p(a)"), 1, (fact, edge)), (read("p(a)"), 1, [edge, fact]), (read("p(a)"), 1, None),
                (read("p(a)"), 1, (edge, (read("q(b, s(b))"), 2, ()))),
                (read("p(a)"), 1, (edge, (read("q(b, s(a))"), 0, ()))),
                (read("p(a)"), 1, (edge, (read("q(b, s(a))"), False, ()))), (read("p(a)"), 1, (edge, list(fact))),
                (read("p(a)"), 1, ((read("e(a, b)"), 0, (edge,)), fact)), (read("p(a)"), 1, (edge, fact[:2])),
                (read("p(a)"), 1, (edge, fact + ((),))), (read("p(a)"), 1, (edge, None)), (read("p(a)"), 1, (edge, ())),
                (read("p(a)"), 1, ((read("e(a, b)"), -5, ()), fact)),
                (read("p(a)"), 1, ((read("e(a, b)"), 3, ()), fact)),
                [read("p(a)"), 1, (edge, fact)], whole[:2], whole + ((),), (list(read("p(a)")), 1, (edge, fact)),
                ("p(a)", 1, (edge, fact)), ((), 1, (edge, fact)), (read("p(a)") * 2, 1, (edge, fact)),
                (read("p(a)")[:1], 1, (edge, fact))):
            self.accepted(value, False)

    def test_no_derivations_at_all(self):
        for value in (None, True, 3, "p", "abc", (), [], [[]], ((), (), ()), (None, None, None), (1, 2, 3), ("v", 0),
                      (a("r"), 3), a("r"), ((("v", -1),), 2, ()), ((("f", "r", False),), 3, ())):
            self.accepted(value, False)

    def test_negative_indexes(self):
        program = clauses("p(X). q(X).")
        self.assertIs(accepts(program, (f("q", v(0)), 1, ())), True)
        for value in ((f("q", v(0)), -1, ()), (f("p", v(0)), -2, ()), (f("p", v(0)), -1, ()), (f("q", v(0)), -3, ())):
            self.assertIs(accepts(program, value), False)
        program = clauses("p(X) :- q(X). q(X).")
        self.assertIs(accepts(program, (f("p", v(0)), 0, ((f("q", v(0)), 1, ()),))), True)
        self.assertIs(accepts(program, (f("p", v(0)), 0, ((f("q", v(0)), -1, ()),))), False)

    def test_one_substitution_for_all(self):
        self.accepted((read("t(a, a)"), 4, ()))
        self.accepted((read("t(a, b)"), 4, ()), False)
        self.accepted((f("t", v(0), v(1)), 4, ()), False)
        self.accepted((read("p(a)"), 1, (self.edge, (f("q", v(0), f("s", a("a"))), 2, ()))), False)
        self.accepted((read("p(a)"), 1, ((f("e", a("a"), v(0)), 0, ()), (f("q", v(0), f("s", a("a"))), 2, ()))), False)
        program = clauses("p(X) :- q(X, Y), q(Y, X). q(A, B).")
        parts = ((f("q", v(0), v(1)), 1, ()), (f("q", v(1), v(0)), 1, ()))
        self.assertIs(accepts(program, (f("p", v(0)), 0, parts)), True)
        self.assertIs(accepts(program, (f("p", v(1)), 0, parts)), False)
        self.assertIs(accepts(program, (f("p", v(0)), 0, parts[::-1])), False)
        # The variables of the instances are no variables of the clauses.
        program = clauses("p(X, Y) :- q(X). q(X).")
        swapped = (f("p", v(1), f("s", v(0))), 0, ((f("q", v(1)), 1, ()),))
        self.assertIs(accepts(program, swapped), True)

    def test_large_instances(self):
        self.accepted((f("q", sized(400), sized(500)), 2, ()))
        self.accepted((f("t", chain("s", 499, v(0)), chain("s", 498, v(0))), 4, ()), False)

    def test_depth_60_and_61(self):
        self.assertIs(accepts(DOWN, nested(60, lambda one: one)), True)
        self.assertIs(accepts(DOWN, nested(61, lambda one: one)), False)
        self.assertEqual(follows(DOWN, nested(60, lambda one: one)), f("p", chain("s", 59, a("z"))))
        with self.assertRaises(NotAccepted):
            follows(DOWN, nested(61, lambda one: one))
        self.assertIs(accepts(DOWN, nested(2000, lambda one: one)), False)
        self.assertIs(accepts([a("r")], nested(900, lambda one: one)), False)

    def test_a_wrong_part_at_the_bottom(self):
        for wrap in (list, lambda one: one[:2], lambda one: (one[0], True, ()), lambda one: (one[0], 1, []),
                     lambda one: (f("p", a("y")), 1, ()), lambda one: (one[0], 0, ()), lambda one: one[0]):
            for depth in (1, 2, 30, 60):
                self.assertIs(accepts(DOWN, nested(depth, wrap)), False)

    def test_deep_values(self):
        value = ()
        for _ in range(20000):
            value = (value,)
        self.assertIs(accepts(DOWN, value), False)
        value = []
        for _ in range(20000):
            value = (a("r"), 3, (value,))
        self.assertIs(accepts(self.program, value), False)

    def test_programs_of_200_clauses(self):
        self.assertIs(accepts(facts(200), (f("p", i(199)), 199, ())), True)
        self.assertIs(accepts(facts(200), (f("p", i(199)), 200, ())), False)


if __name__ == "__main__":
    unittest.main()
