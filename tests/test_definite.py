"""Points 31 and 33, and hornbook/definite.py."""

import unittest

from helper import (
    BUILT_IN, CONTROL, a, chain, f, i, items, left_chain, random_clauses, read, reads, right_chain, rule, seeded,
    sized, v)
from hornbook.definite import head_and_goals, resolve
from hornbook.derivations import accepts, derive, follows
from hornbook.errors import NotDefinite, TooLarge
from hornbook.tables import closed, reason, table_answers, tables
from hornbook.terms import renumber, variables
from hornbook.trees import accepts_tree, search_tree, tree_answers
from hornbook.unify import apply, unify

TRUE = a("true")
NO_GOALS = [v(0), i(3), i(-1)] + [f(name, *[v(k) for k in range(arity)]) for name, arity in CONTROL + BUILT_IN]


class HeadAndGoals(unittest.TestCase):

    def test_facts(self):
        self.assertEqual(head_and_goals(f("p", v(3), v(1))), (f("p", v(3), v(1)), []))
        self.assertEqual(head_and_goals(f(":-", a("p"), TRUE)), (a("p"), []))
        self.assertEqual(head_and_goals(a("[]")), (a("[]"), []))
        self.assertIs(type(head_and_goals(a("p"))), tuple)

    def test_goals(self):
        for body, goals in (
                ("q(X)", ["q(X)"]), ("q, r(X), s", ["q", "r(X)", "s"]), ("(q, r), s", ["q", "r", "s"]),
                ("((q, r), (s, t)), u", ["q", "r", "s", "t", "u"]), ("true, q", ["q"]), ("q, true", ["q"]),
                ("q, true, r", ["q", "r"]), ("true, true", []), ("(true, true), (q, true)", ["q"]),
                ("q, q", ["q", "q"]),
                ("true(a), ','(a), [a], {a}", ["true(a)", "','(a)", "[a]", "{a}"]),
                ("f((a, X)), (a :- !)", ["f((a, X))", "(a :- !)"])):
            with self.subTest(body):
                clause = read(f"p(X) :- {body}")
                renamed = [renumber(goal) for goal in reads(*goals)]
                self.assertEqual([renumber(goal) for goal in head_and_goals(clause)[1]], renamed)
                self.assertEqual(head_and_goals(clause)[0], f("p", v(0)))

    def test_variables_are_kept(self):
        clause = rule(f("p", v(7), v(2)), f("q", v(9)), f("r", v(2)))
        self.assertEqual(head_and_goals(clause), (f("p", v(7), v(2)), [f("q", v(9)), f("r", v(2))]))

    def test_wrong_heads(self):
        for head in NO_GOALS:
            for clause in (head, f(":-", head, a("q")), f(":-", head, TRUE)):
                with self.subTest(clause), self.assertRaises(NotDefinite):
                    if clause[0] == ("f", ",", 2):
                        clause = f(":-", clause, a("q"))
                    head_and_goals(clause)

    def test_wrong_goals(self):
        for goal in NO_GOALS:
            if goal in (TRUE, f(",", v(0), v(1))):
                continue
            for body in (goal, f(",", goal, a("q")), f(",", a("q"), goal), f(",", f(",", a("q"), goal), a("q")),
                         f(",", TRUE, f(",", a("q"), goal))):
                with self.subTest(body), self.assertRaises(NotDefinite):
                    head_and_goals(f(":-", a("p"), body))

    def test_names_of_constructs_at_other_arities(self):
        for goal in (a("call"), a("catch"), f("true", v(0)), f("!", v(0)), f(",", v(0)), f("\\+", v(0), v(1)),
                     f("write", v(0), v(1)), f("->", v(0), v(1), v(2)), f(":-", v(0), v(1)), items(v(0)), a(",")):
            self.assertEqual(head_and_goals(f(":-", a("p"), goal)), (a("p"), [goal]))
            self.assertEqual(head_and_goals(f(":-", goal, a("p"))), (goal, [a("p")]))

    def test_call_of_each_arity(self):
        for arity in range(1, 9):
            goal = f("call", *[v(k) for k in range(arity)])
            with self.assertRaises(NotDefinite):
                head_and_goals(f(":-", a("p"), goal))

    def test_200_nodes(self):
        self.assertEqual(head_and_goals(sized(200)), (sized(200), []))
        self.assertEqual(head_and_goals(f(":-", a("p"), sized(198))), (a("p"), [sized(198)]))
        for clause in (sized(201), f(":-", a("p"), sized(199)), f(":-", a("p"), right_chain(",", 99, a("q"))),
                       sized(1000)):
            with self.assertRaises(NotDefinite):
                head_and_goals(clause)

    def test_deep_bodies(self):
        goals = [a("x")] * 98
        self.assertEqual(head_and_goals(f(":-", a("p"), right_chain(",", 98, a("q")))), (a("p"), goals + [a("q")]))
        self.assertEqual(head_and_goals(f(":-", a("p"), left_chain(",", 98, a("q")))), (a("p"), [a("q")] + goals))
        deep = chain("s", 197, v(0))
        self.assertEqual(head_and_goals(f(":-", a("p"), deep)), (a("p"), [deep]))
        with self.assertRaises(NotDefinite):
            head_and_goals(f(":-", a("p"), left_chain(",", 98, v(0))))


class Resolve(unittest.TestCase):

    def test_each_pick(self):
        goals = reads("q(a)", "q(b)", "q(c)")
        clause = read("q(X) :- r(X), s(X)")
        for pick, letter in enumerate("abc"):
            query, found = resolve(a("p"), goals, pick, clause)
            expected = goals[:pick] + reads(f"r({letter})", f"s({letter})") + goals[pick + 1:]
            self.assertEqual((query, found), (a("p"), expected))
            self.assertIs(type(found), list)
        self.assertEqual(goals, reads("q(a)", "q(b)", "q(c)"))

    def test_clauses_without_goals(self):
        self.assertEqual(resolve(f("p", v(0)), [f("q", v(0))], 0, f("q", a("x"))), (f("p", a("x")), []))
        self.assertEqual(resolve(f("p", v(0)), [a("q"), f("q", v(0))], 0, a("q")), (f("p", v(0)), [f("q", v(0))]))

    def test_no_unifier(self):
        self.assertIsNone(resolve(a("p"), [a("q")], 0, a("r")))
        self.assertIsNone(resolve(a("p"), [f("q", v(0))], 0, a("q")))
        self.assertIsNone(resolve(a("p"), [f("q", v(0), f("s", v(0)))], 0, f("q", v(1), v(1))))
        self.assertIsNone(resolve(a("p"), [f("q", a("x"), a("y"))], 0, f(":-", f("q", v(0), v(0)), a("r"))))

    def test_the_variables_of_the_clause_are_others(self):
        self.assertEqual(
            resolve(f("p", v(0), v(1)), [f("q", v(0), v(1))], 0, f(":-", f("q", v(1), v(0)), f("r", v(1), v(2)))),
            (f("p", v(0), v(1)), [f("r", v(0), v(2))]))
        self.assertEqual(resolve(f("p", v(0)), [f("q", v(0))], 0, f("q", f("s", v(0)))), (f("p", f("s", v(0))), []))
        # Those of a goal that is not picked, too.
        clause = f(":-", f("q", v(1)), f("t", v(2), v(1)))
        self.assertEqual(resolve(a("p"), [f("q", v(0)), f("r", v(1), v(2))], 0, clause),
                         (a("p"), [f("t", v(0), v(1)), f("r", v(2), v(3))]))

    def test_the_query_comes_first(self):
        query, goals = resolve(f("p", v(9), v(4)), [f("q", v(7), v(4)), f("r", v(9), v(7))], 1, f("r", v(3), v(2)))
        self.assertEqual((query, goals), (f("p", v(0), v(1)), [f("q", v(2), v(1))]))
        query, goals = resolve(a("p"), [f("q", v(7), v(4)), a("r"), f("q", v(4), v(7))], 1, a("r"))
        self.assertEqual((query, goals), (a("p"), [f("q", v(0), v(1)), f("q", v(1), v(0))]))

    def test_everything_is_instantiated(self):
        query, goals = resolve(f("p", v(0)), [f("q", v(0)), f("r", v(0)), f("t", v(0))], 1,
                               f(":-", f("r", f("s", v(0))), f("u", v(0))))
        deep = f("s", v(0))
        self.assertEqual((query, goals), (f("p", deep), [f("q", deep), f("u", v(0)), f("t", deep)]))

    def test_not_definite(self):
        good = [f("p", v(0)), [a("q")], 0, a("q")]
        for goal in NO_GOALS:
            for place, value in ((0, goal), (1, [a("q"), goal]), (1, [goal]), (3, f(":-", goal, a("r"))),
                                 (3, f(":-", a("q"), f(",", f("p", v(0)), f("->", goal, goal))))):
                wrong = list(good)
                wrong[place] = value
                with self.subTest(wrong), self.assertRaises(NotDefinite):
                    resolve(*wrong)
        with self.assertRaises(NotDefinite):
            resolve(a("p"), [a("q")], 0, sized(201))

    def test_too_large_in_the_unification(self):
        self.assertEqual(resolve(a("p"), [f("q", v(0))], 0, f("q", chain("s", 198, v(0)))), (a("p"), []))
        fits = f("q", v(0), v(0), chain("s", 65, v(2)))
        self.assertEqual(resolve(a("p"), [f("q", v(1), v(1), v(1))], 0, fits), (a("p"), []))
        wide = f("q", v(0), v(0), chain("s", 66, v(2)))
        with self.assertRaises(TooLarge):
            resolve(a("p"), [f("q", v(1), v(1), v(1))], 0, wide)
        # The unification becomes too large before it fails.
        with self.assertRaises(TooLarge):
            resolve(a("p"), [f("q", v(1), v(1), chain("s", 100, a("x")), a("y"))], 0, f("q", v(0), v(0), v(0), a("z")))
        with self.assertRaises(NotDefinite):
            resolve(a("p"), [f("q", v(1), v(1), v(1))], 0, f(":-", wide, v(0)))

    def test_too_large_afterwards(self):
        clause = f("q", chain("s", 98, v(0)))
        for query, goals in ((f("p", v(0), v(0)), []), (a("p"), [f("r", v(0), v(0))])):
            found = resolve(query, [f("q", v(0)), *goals], 0, clause)
            self.assertEqual(max(len(term) for term in [found[0], *found[1]]), 199)
        for more in (99, 100):
            clause = f("q", chain("s", more, v(0)))
            for query, goals in ((f("p", v(0), v(0)), []), (a("p"), [f("r", v(0), v(0))])):
                with self.assertRaises(TooLarge):
                    resolve(query, [f("q", v(0)), *goals], 0, clause)
        clause = f("q", chain("s", 98, v(0)))
        query, _ = resolve(f("p", v(0), v(0), a("x")), [f("q", v(0))], 0, clause)
        self.assertEqual(len(query), 200)
        with self.assertRaises(TooLarge):
            resolve(f("p", v(0), v(0), a("x"), a("x")), [f("q", v(0))], 0, clause)
        # A goal of the clause, too.
        clause = f(":-", f("q", v(0)), f("r", v(0), v(0), a("x")))
        _, goals = resolve(a("p"), [f("q", chain("s", 98, v(0)))], 0, clause)
        self.assertEqual(len(goals[0]), 200)
        with self.assertRaises(TooLarge):
            resolve(a("p"), [f("q", chain("s", 99, v(0)))], 0, clause)

    def test_large_terms_without_a_unifier(self):
        self.assertIsNone(resolve(sized(1000), [sized(1000)], 0, a("q")))
        with self.assertRaises(TooLarge):
            resolve(sized(201), [a("q")], 0, a("q"))
        self.assertEqual(resolve(sized(200), [a("q")], 0, a("q")), (sized(200), []))

    def test_deep_terms(self):
        deep = chain("s", 150, v(0))
        self.assertEqual(resolve(f("p", v(0)), [f("q", v(0))], 0, f("q", deep)), (f("p", deep), []))

    def test_against_the_words(self):
        source = seeded(33)
        for _ in range(300):
            program = random_clauses(source, 3)
            heads = [head_and_goals(clause)[0] for clause in program]
            query, goals = renumber(heads[0]), [renumber(heads[1]), heads[2]]
            clause, pick = program[source.randrange(3)], source.randrange(2)
            head, own = head_and_goals(apply({k: v(k + 20) for k in variables(clause)}, clause))
            unifier = unify(goals[pick], head)
            found = resolve(query, goals, pick, clause)
            if unifier is None:
                self.assertIsNone(found)
                continue
            goals[pick:pick + 1] = own
            whole = f("g", *[apply(unifier, term) for term in [query, *goals]])
            self.assertEqual(f("g", found[0], *found[1]), renumber(whole))


class Everywhere(unittest.TestCase):
    """Each function that takes a definite program, a clause or a query raises NotDefinite before all else."""

    def refuse(self, function, *arguments):
        with self.subTest(function.__name__), self.assertRaises(NotDefinite):
            function(*arguments)

    def test_programs(self):
        good = [read("p(X) :- q(X), true"), read("q(a)"), read("r")]
        wrong = [f(":-", goal, a("r")) for goal in NO_GOALS] + [v(0), i(3), a("!"), a("nl")]
        wrong += [rule(a("r"), a("p"), goal, a("q")) for goal in NO_GOALS if goal not in (TRUE, f(",", v(0), v(1)))]
        wrong += [sized(201), rule(a("r"), sized(199))]
        programs = [good[:at] + [clause] + good[at:] for at, clause in enumerate(wrong * 2) for at in [at % 4]]
        programs.append(good + [a("r")] * 198)
        values = [None, True, 7, "text", [], (), (a("p"), 0, ()), (0, ()), [(a("p"), [])]]
        for number, program in enumerate(programs):
            value = values[number % len(values)]
            for query in (a("p"), sized(1000)):
                self.refuse(derive, program, query, 10 ** 9)
                self.refuse(search_tree, program, query, [])
                self.refuse(accepts_tree, program, query, value)
                self.refuse(tree_answers, program, query, value)
                self.refuse(tables, program, query)
                self.refuse(table_answers, program, query)
                self.refuse(reason, program, query, query, a("r"))
            self.refuse(accepts, program, value)
            self.refuse(follows, program, value)
            self.refuse(closed, program, value)

    def test_queries(self):
        for goal in NO_GOALS:
            for program in ([], [read("p(X) :- p(s(X))")], [chain("s", 199, v(0))]):
                self.refuse(derive, program, goal, 0)
                self.refuse(search_tree, program, goal, [1, 2])
                self.refuse(accepts_tree, program, goal, "none")
                self.refuse(tree_answers, program, goal, "none")
                self.refuse(tables, program, goal)
                self.refuse(table_answers, program, goal)
                self.refuse(reason, program, goal, goal, goal)
            self.refuse(resolve, goal, [a("q")], 0, a("q"))

    def test_clauses(self):
        for goal in NO_GOALS:
            self.refuse(head_and_goals, f(":-", goal, a("r")))
            self.refuse(resolve, a("p"), [a("q")], 5, f(":-", goal, a("r")))
            self.refuse(resolve, a("p"), [], 0, f(":-", goal, a("r")))


if __name__ == "__main__":
    unittest.main()
