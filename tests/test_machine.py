"""Points 61 to 67, 72, 97 and 103 by a machine, and hornbook/machine.py."""

import time
import unittest

from helper import (
    a, chain, clauses, f, facts, i, items, random_prolog_goal, random_prolog_program, read, seeded, shown, sized, v)
from hornbook.machine import Machine
from hornbook.program import Program, read_program
from hornbook.search import Search

LIMIT, END = ("limit",), ("end",)
APPEND = "app([], Y, Y). app([H|X], Y, [H|Z]) :- app(X, Y, Z). "
REVERSE = APPEND + "rev([], []). rev([H|T], R) :- rev(T, S), app(S, [H], R). "
QUEENS = """
queens(N, Qs) :- range(1, N, Ns), place(Ns, [], Qs).
place([], Qs, Qs). place(Left, Safe, Qs) :- select(Left, Q, Rest), \\+ attack(Q, Safe), place(Rest, [Q|Safe], Qs).
attack(X, Xs) :- attack(X, 1, Xs).
attack(X, N, [Y|_]) :- X =:= Y + N. attack(X, N, [Y|_]) :- X =:= Y - N.
attack(X, N, [_|Ys]) :- M is N + 1, attack(X, M, Ys).
select([X|Xs], X, Xs). select([Y|Ys], X, [Y|Zs]) :- select(Ys, X, Zs).
range(N, N, [N]) :- !. range(M, N, [M|Ns]) :- M < N, K is M + 1, range(K, N, Ns).
"""
# Programs with queries that end, for each construct and each built-in predicate.
TEXTS = [
    ("", "true"), ("", "fail"), ("", "true, fail ; true"), ("", "X = 1 ; X = 2"), ("", "!, X = 1 ; X = 2"),
    ("", "(X = 1, ! ; X = 2) ; X = 3"), ("p(1). p(2).", "p(X), p(Y)"), ("p(1). p(2).", "p(X), !, p(Y)"),
    ("p(1). p(2). q(X) :- p(X), !. q(3).", "q(X)"), ("p(1). p(2). q(X) :- !, p(X). q(3).", "q(X)"),
    ("p(1). p(2). q(X) :- (p(X), ! ; X = 4). q(3).", "q(X)"), ("p(1). p(2).", "(p(X) -> p(Y) ; Y = 3)"),
    ("p(1). p(2).", "(p(3) -> p(Y) ; p(Y))"), ("p(1).", "(p(2) -> true)"), ("p(1). p(2).", "(p(X), ! -> p(Y) ; true)"),
    ("p(1). p(2). q(X) :- (p(X) -> !, true ; true). q(3).", "q(X)"), ("p(1).", "\\+ p(1)"), ("p(1).", "\\+ p(2)"),
    ("p(1). p(2).", "\\+ \\+ p(X), p(X)"), ("p(1). p(2). q(X) :- \\+ (p(X), !, X = 2), p(X). q(3).", "q(X)"),
    ("p(1). p(2).", "call(p(X))"), ("p(1). p(2).", "call(p, X)"), ("p(1). p(2).", "call((p(X), !)), p(Y)"),
    ("p(1). p(2).", "G = p(X), G"), ("", "X"), ("", "3"), ("", "call(3)"), ("", "call(X, 1)"),
    ("", "call(f(A, B, C, D, E), 1, 2, 3, 4)"), ("", "call(f(A, B, C, D, E, F, G), 1)"), ("", "call((fail, 1))"),
    ("", "call((true ; 1))"), ("", "call(;, X = 1, X = 2)"), ("", "call(',', true, X = 1)"),
    ("p(1). p(2).", "catch(p(X), E, true)"), ("p(1). p(2).", "catch((p(X), !), E, true), p(Y)"),
    ("", "catch(throw(a), a, X = 1)"), ("", "catch(throw(f(Y)), f(1), X = 1)"), ("", "catch(throw(a), b, true)"),
    ("", "catch(catch(throw(a), b, X = 1), a, X = 2)"), ("", "catch(catch(throw(a), a, throw(b)), b, X = 2)"),
    ("p(1). p(2).", "catch((p(X), X = 2, throw(f(X))), f(Y), true)"), ("", "throw(X)"), ("", "throw(f(X, X))"),
    ("p(1). p(2).", "catch(p(X), _, true), throw(a)"), ("p :- catch(q, E, true), throw(b). q.", "catch(p, b, X = 1)"),
    ("p(1). p(2). q(X) :- catch(p(X), _, true), !. q(3).", "q(X)"), ("", "catch(none, E, true)"), ("", "none(1, 2)"),
    ("p(1). p(2).", "catch((p(X) ; throw(a)), a, X = 3)"), ("", "X = 1, catch((X = 1, Y = 2, throw(a)), a, true)"),
    ("p(1). p(2).", "p(X), catch(throw(a), a, !)"), ("p(1). p(2).", "p(X), catch(throw(!), Y, Y)"),
    ("p(1). p(2). q(X) :- p(X), catch((p(Y), throw(Y)), Z, (p(Z), !)). q(3).", "q(X)"),
    ("p(1). p(2).", "p(X), catch(!, E, true)"), ("p(1). p(2).", "p(X), call(!)"), ("p(1). p(2).",
    "p(X), findall(Y, !, L)"),
    ("p(1). p(2).", "findall(X, p(X), L)"), ("", "findall(X, fail, L)"), ("p(1). p(2).", "findall(X-Y, p(X), L)"),
    ("p(1). p(2).", "findall(X, p(X), [A, B])"), ("p(1). p(2).", "findall(X, p(X), [A])"),
    ("p(1). p(2).", "findall(X, (p(X), !), L)"), ("p(1).", "p(X), findall(Y, (Y = X ; Y = Z), L)"),
    ("p(1). p(2).", "findall(L, (p(X), findall(Y, p(Y), L)), M)"), ("p(1).", "findall(X, throw(a), L)"),
    ("p(1). p(2).", "catch(findall(X, (p(X), X = 2, throw(X)), L), Y, true)"), ("", "findall(X, Y, Z)"),
    ("", "X = f(Y), Y = 1"), ("", "X = f(X)"), ("", "f(X, Y) = f(Y, 1)"), ("", "X \\= 1"), ("", "1 \\= 2"),
    ("", "X == X"), ("", "X == Y"), ("", "X \\== Y"), ("", "a @< b"), ("", "X @< Y"), ("", "compare(O, 1, a)"),
    ("", "compare(O, f(1), f(1))"), ("", "compare(O, X, Y)"),
    ("", "var(X), nonvar(a), atom(a), integer(1), callable(a)"),
    ("", "var(a) ; nonvar(X) ; atom(1) ; integer(a) ; callable(1) ; X = 1"), ("", "functor(f(a, b), N, A)"),
    ("", "functor(T, f, 3)"), ("", "functor(T, f, 3), T = f(1, X, X)"), ("", "functor(T, N, 3)"),
    ("", "functor(T, f, 9)"),
    ("", "functor(T, 5, 0)"), ("", "functor(T, f(x), 1)"), ("", "arg(2, f(a, b), X)"), ("", "arg(3, f(a, b), X)"),
    ("", "arg(X, f(a), Y)"), ("", "arg(1, a, Y)"), ("", "f(a, B) =.. L"), ("", "T =.. [f, A, 2]"), ("", "T =.. []"),
    ("", "T =.. [X]"), ("", "copy_term(f(X, Y, X), T)"), ("", "sort([c, 1, b, X, a, 1], L)"),
    ("", "sort([b, f(X)|Y], L)"),
    ("", "sort([c, 1, b, a, 1], L)"), ("", "X is 2 + 3 * 4 - 7 // 2"), ("", "X is 7 mod 0"), ("", "X is foo + 1"),
    ("", "X is Y + 1"), ("", "1 + 1 =:= 2"), ("", "1 < 2, 2 =< 2"), ("", "2 < 1 ; 3 =< 2"),
    ("", "write(f(X, Y, X)), nl"),
    ("p(1). p(2).", "p(X), write(X), nl, fail"), (":- dynamic(p, 1).", "p(X)"),
    (":- dynamic(p, 1).", "assertz(p(1)), asserta(p(2)), assertz((p(X) :- X = 3)), p(Y)"),
    (":- dynamic(p, 1). p(1). p(2). p(3).", "p(X), assertz(p(4)), retract(p(2))"),
    (":- dynamic(p, 1). p(1). p(2). p(3).", "retract(p(X)), p(Y)"), ("p(1).", "assertz(p(2))"),
    ("p(1).", "retract(p(1))"),
    (":- dynamic(p, 1). p(1). p(2).", "p(X), retract(p(2)), p(Y)"), ("", "assertz(3)"), ("", "assertz(X)"),
    (":- dynamic(p, 1).", "assertz((p(X) :- (X = 1 ; X = 2), !)), p(Y)"), (":- dynamic(p, 0).", "retract(p)"),
    ("e(a, b). e(b, c). q(X, Y) :- q(X, Z), e(Z, Y). q(X, Y) :- e(X, Y).", "tabled(q(a, X))"),
    ("e(a, b). e(b, c). q(X, Y) :- q(X, Z), e(Z, Y). q(X, Y) :- e(X, Y).", "tabled(q(X, Y)), !"),
    ("p(X, X). p(X, Y).", "tabled(p(A, B)), tabled(p(C, A))"), ("", "tabled(X)"), ("", "tabled(3)"),
    ("", "tabled(none)"),
    ("p :- q ; r. q.", "tabled(p)"), ("p :- q. q :- none.", "tabled(p)"), ("", "tabled((p, q))"),
    (":- dynamic(p, 1). p(1). q(X) :- p(X).",
    "assertz(p(2)), asserta(p(0)), tabled(q(X)), retract(p(X)), tabled(q(Y))"),
    ("", "solve([X, Y], [X in 1 .. 3, Y in 1 .. 3, X < Y])"), ("", "solve([X], [X in 3 .. 1])"), ("", "solve(X, [])"),
    ("", "solve([], []), solve([X, 7, X], [X in 1 .. 2])"), ("", "solve([X], [X in 1 .. 3, foo])"),
    ("", "solve([Y], [])"),
    ("", "X = 2, solve([X, Y], [Y in 1 .. 3, Y =:= X + 1])"), ("", "solve([X], [X in 1 .. 3]), X \\= 1, !"),
    (REVERSE, "rev([1, 2, 3, 4, 5], X)"), (APPEND, "app(X, Y, [1, 2, 3])"), (QUEENS, "queens(4, X)"),
    ("len([], 0). len([_|T], N) :- len(T, M), N is M + 1.", "len([a, b, c, d], N)"),
    ("n(z). n(s(X)) :- n(X). l(X, X) :- !. l(X, s(Y)) :- l(X, Y).", "n(s(s(s(z)))), l(z, s(s(z)))"),
    ("fac(0, 1) :- !. fac(N, F) :- M is N - 1, fac(M, G), F is N * G.", "fac(20, X)"),
    ("h(A, B, C, D, E, F, G, H) :- h2(H, G, F, E, D, C, B, A). h2(1, 2, 3, 4, 5, 6, 7, 8).",
    "h(A, B, C, D, E, F, G, H)"),
]


def nodes_of(program):
    """The numbers of nodes of the clauses of a program."""
    return {pair: len(pair[0]) + len(pair[1]) + 1 for pair in program.clauses()}


def telling(program, query, steps):
    """The events of a search after so many steps, the number of steps, the constant c of point 67, and the search."""
    search, sizes, count = Search(program, query), nodes_of(program), 0
    while count < steps and not search.ended():
        search.step()
        count += 1
        sizes.update(nodes_of(search.program()))
    return search.run(0), count, 100 + 25 * (len(query) + sum(sizes.values()) + 200), search


class Running(unittest.TestCase):

    def compare(self, program, query, steps=2000, **more):
        """Whether point 67 holds; returns the machine."""
        events, count, constant, search = telling(program, query, steps)
        machine = Machine(program, query, **more)
        whole = search.ended() and LIMIT not in events
        events = [event for event in events if event != LIMIT]
        left = constant * (count + 1)
        while left > 0 and not machine.ended() and (whole or len(machine.run(0)) < len(events)):
            machine.run(100)
            left -= 100
        found = machine.run(0)
        self.assertEqual(found[:len(events)], events)
        if whole:
            self.assertEqual(found, events)
            self.assertIs(machine.ended(), True)
            self.assertEqual(machine.program().clauses(), search.program().clauses())
        return machine

    def compare_text(self, program, query, **more):
        with self.subTest(query, program=program[:40]):
            return self.compare(read_program(program), read(query), **more)


class Constructs(Running):

    def test_each_of_them(self):
        for program, query in TEXTS:
            events = self.compare_text(program, query).run(0)
            self.assertIn(events[-1][0], ("end", "error"))

    def test_in_a_clause(self):
        """The same goals, called through a clause, in the middle of a body and nested."""
        for program, query in TEXTS:
            for clause in ("main :- {}.", "main :- true, ({}), true.", "main :- go, ({}), go. go.",
                           "main :- ({}), ! ; true.", "main :- \\+ \\+ ({}).",
                           "main :- findall(x, ({}), L), write(L)."):
                self.compare_text(program + " " + clause.format(query), "main")

    def test_in_other_constructs(self):
        for program, query in TEXTS:
            for outer in ("catch(({}), E9, true)", "(({}) ; true)", "call(({}))", "(({}) -> true ; true)",
                "({}), fail"):
                self.compare_text(program, outer.format(query))

    def test_with_other_plans_and_collections(self):
        for program, query in TEXTS:
            expected = Machine(read_program(program), read(query)).run(10 ** 5)
            for plan in ((), (1,), (0, 1, 2), (7, 0, 0), (3, 2, 1, 0)):
                self.assertEqual(Machine(read_program(program), read(query), plan=plan).run(10 ** 5), expected)
            collect_at = tuple(range(3000))
            self.assertEqual(Machine(read_program(program), read(query), collect_at=collect_at).run(10 ** 5), expected)

    def test_queries(self):
        program = read_program("p(f(A, B), B, C). q.")
        self.assertEqual(Machine(program, f("p", v(9), v(2), v(5))).run(1000),
                         [("answer", [v(0), v(1), f("f", v(2), v(0))]), END])
        self.assertEqual(Machine(program, a("q")).run(1000), [("answer", []), END])
        wide = f("=", items(*[v(k) for k in range(30)]), items(*[i(k) for k in range(30)]))
        self.assertEqual(Machine(program, wide).run(1000), [("answer", [i(k) for k in range(30)]), END])


class Steps(Running):

    def test_runs_of_any_lengths(self):
        source = seeded(67)
        for program, query in TEXTS[::7] + [(REVERSE, "rev([1, 2, 3], X)")]:
            whole = Machine(read_program(program), read(query))
            expected = whole.run(10 ** 5)
            parts = Machine(read_program(program), read(query))
            while not parts.ended():
                before = parts.run(0)
                found = parts.run(source.randrange(4))
                self.assertEqual(found[:len(before)], before)
                self.assertEqual(found, expected[:len(found)])
            self.assertEqual(parts.run(5), expected)
            single = Machine(read_program(program), read(query))
            count = 0
            while not single.ended():
                self.assertIsNone(single.step())
                count += 1
            self.assertEqual(single.run(0), expected)
            # As many instructions as it needs, and no more.
            exact = Machine(read_program(program), read(query))
            exact.run(count - 1)
            self.assertIs(exact.ended(), False)
            exact.run(1)
            self.assertIs(exact.ended(), True)

    def test_nothing_changes_after_the_end(self):
        for program, query in (("p(1).", "p(X)"), ("", "throw(a)"), ("", "fail"), ("", "tabled(X)")):
            machine = Machine(read_program(program), read(query))
            events = machine.run(1000)
            state = (machine.sizes(), machine.at_call(), machine.view(), machine.program().clauses())
            self.assertIs(machine.ended(), True)
            self.assertIsNone(machine.step())
            self.assertEqual(machine.run(10), events)
            self.assertEqual((machine.sizes(), machine.at_call(), machine.view(), machine.program().clauses()), state)
            self.assertEqual(state[1:3], (None, None))

    def test_results_are_apart(self):
        machine = Machine(read_program("p(1)."), read("p(X)"))
        machine.run(100).append("more")
        machine.run(100)[0][1].append("more")
        self.assertEqual(machine.run(100), [("answer", [i(1)]), END])

    def test_the_program_is_a_copy(self):
        program = read_program(":- dynamic(p, 1). p(1).")
        one = Machine(program, read("assertz(p(2)), retract(p(1)), p(X)"))
        other = Machine(program, read("p(X)"))
        self.assertEqual(one.run(1000), [("answer", [i(2)]), END])
        self.assertEqual(other.run(1000), [("answer", [i(1)]), END])
        self.assertEqual(len(program.clauses()), 1)
        self.assertIsInstance(one.program(), Program)
        self.assertEqual(one.program().clauses(), [(f("p", i(2)), a("true"))])
        self.assertIs(one.program().is_dynamic("p", 1), True)

    def test_the_programs_at_each_event(self):
        for text in ("p(X), write(X), assertz(q(X)), asserta(q(b)), write(X), retract(q(X)), write(c)",
                     "retract(p(X)), write(X), p(Y), write(Y), asserta((q(Z) :- p(Z))), nl, q(W), write(W)"):
            program = read_program(":- dynamic(p, 1). :- dynamic(q, 1). p(1). p(2). p(3).")
            search, machine = Search(program, read(text)), Machine(program, read(text))
            seen = {}
            while not search.ended():
                search.step()
                seen.setdefault(len(search.run(0)), search.program().clauses())
            while not machine.ended():
                count = len(machine.run(0))
                machine.step()
                if len(machine.run(0)) > count:
                    self.assertEqual(machine.program().clauses(), seen[len(machine.run(0))])

    def test_later_changes_do_not_change_what_is_tried(self):
        program = ":- dynamic(p, 1). p(1). p(2). p(3)."
        for query in ("p(X), retract(p(2)), write(X), fail", "p(X), X < 3, Y is X + 3, assertz(p(Y)), write(X), fail",
                      "p(X), retract(p(X)), write(X), fail", "p(X), asserta(p(0)), !, p(Y)"):
            self.compare_text(program, query)


class Drawn(Running):

    def test_drawn_programs(self):
        source = seeded(65)
        events = 0
        for number in range(900):
            found, dynamic = random_prolog_program(source)
            plan = ((0,), (), (1, 0), (0, 0, 5))[number % 4]
            events += len(self.compare(Program(found, dynamic), random_prolog_goal(source, 4), 80, plan=plan).run(0))
        self.assertGreater(events, 1200)

    def test_drawn_programs_that_run_longer(self):
        source = seeded(68)
        events = 0
        for number in range(500):
            found, dynamic = random_prolog_program(source, calm=True)
            plan = ((0,), (), (1, 0), (0, 0, 5))[number % 4]
            query = random_prolog_goal(source, 4, calm=True)
            events += len(self.compare(Program(found, dynamic), query, 200, plan=plan).run(0))
        self.assertGreater(events, 1200)


class Limits(unittest.TestCase):

    def check(self, query, *expected, program=""):
        """The events of the machine; the search has the same."""
        given = read_program(program) if isinstance(program, str) else program
        query = read(query) if isinstance(query, str) else query
        machine = Machine(given, query)
        found = machine.run(10 ** 5)
        self.assertEqual(found, list(expected))
        self.assertIs(machine.ended(), True)
        if found[-1] == LIMIT:
            sizes = machine.sizes()
            machine.step()
            self.assertEqual((machine.run(10), machine.sizes(), machine.at_call()), (found, sizes, None))
        self.assertEqual(Search(given, query).run(10 ** 5), list(expected))

    def with_size(self, goal, size):
        """A program and a query with a goal in which X, its variable 0, is so large that it has so many nodes."""
        inner = size - len(goal) + 1
        program = Program([f("h", chain("s", inner - 100, v(0)), v(0)), f("l", sized(100))], [("s", 1)])
        return program, f(",", f(",", f(",", f("h", v(0), v(1)), f("l", v(1))), a("nl")), goal)

    def at_200_and_201(self, goal, kind):
        """The machine and the search end with an event of a kind at 200 nodes, and with the limit at 201."""
        for size, last in ((199, kind), (200, kind), (201, "limit")):
            program, query = self.with_size(goal, size)
            found = Machine(program, query).run(10 ** 5)
            self.assertEqual(found[-1][0], last, goal)
            search = Search(program, query).run(10 ** 5)
            if last == "limit":
                # The search has ended before the goal is taken.
                self.assertEqual((search, found), ([LIMIT], [("write", "\n"), LIMIT]))
            else:
                self.assertEqual(found, search)

    def test_the_query(self):
        self.check(f("=", v(0), sized(198)), ("answer", [sized(198)]), END)
        self.check(f("=", v(0), sized(199)), LIMIT)
        self.check(f(",", a("true"), f("=", v(0), sized(196))), ("answer", [sized(196)]), END)
        self.check(f(",", a("true"), f("=", v(0), sized(197))), LIMIT)
        # The goal form counts: with call(X) for X.
        deep = chain("\\+", 198, v(0))
        self.assertEqual(Machine(Program([], []), deep).run(10 ** 5)[0][0], "error")
        self.check(chain("\\+", 199, v(0)), LIMIT)
        for size in (201, 500, 1000):
            self.check(sized(size), LIMIT)

    def test_goals_of_built_in_predicates(self):
        for goal in (f("write", v(0)), f("var", v(0)), f("copy_term", a("a"), v(0)), f("arg", i(1), v(0), v(9)),
            f("==", v(0), i(3)),
                     f("functor", v(0), v(8), v(9)), f("\\=", i(1), v(0)), f("=", i(1), v(0)),
                     f("@<", i(1), v(0)), f("sort", f("[]"), v(0)), f("nonvar", v(0)), f("compare", v(9), v(0), i(1))):
            self.at_200_and_201(goal, "end")
        for goal in (f("is", v(9), v(0)), f("assertz", f(":-", v(0), a("true"))), f("retract", v(0)),
            f("tabled", f("none", v(0))),
                     f("solve", v(0), a("[]"))):
            self.at_200_and_201(goal, "end" if goal[0][1] in ("assertz", "retract") else "error")

    def test_built_in_predicates_that_get_too_large(self):
        wide = f("f", v(1), v(1), v(1))
        for size in (66, 67):
            other = f("f", v(2), chain("s", size - 1, v(3)), v(2))
            for name in ("=", "\\="):
                query = f(",", a("nl"), f(name, wide, other))
                found = Machine(Program([], []), query).run(10 ** 5)
                self.assertEqual(found, Search(Program([], []), query).run(10 ** 5))
                self.assertEqual(found[-1] == LIMIT, size == 67, name)
        program = "n(z). n(s(X)) :- n(X). k(z). k(s(X)) :- k(X)."
        self.check("nl, tabled(n(X))", ("write", "\n"), LIMIT, program=program)
        self.check("nl, solve([X, Y], [X in 1 .. 50, Y in 1 .. 5])", ("write", "\n"), LIMIT)

    def test_control_constructs_that_are_called(self):
        self.at_200_and_201(f("call", v(0)), "end")
        self.at_200_and_201(f("call", f("call"), v(0)), "end")
        self.at_200_and_201(f("call", a("none"), v(0)), "error")
        self.at_200_and_201(f("findall", i(1), a("true"), v(0)), "end")
        self.at_200_and_201(f("catch", a("true"), v(0), a("true")), "end")
        self.at_200_and_201(f("catch", a("true"), a("a"), v(0)), "end")
        self.at_200_and_201(f("throw", v(0)), "error")

    def test_the_goal_form_of_what_is_called(self):
        # A disjunction of n variables has 2 * n - 1 nodes, and its goal form 3 * n - 1.
        for count, last in ((66, "error"), (67, "error"), (68, "limit")):
            goal = v(count)
            for number in range(1, count):
                goal = f(";", v(number), goal)
            for query in (f("call", goal), f("findall", i(1), goal, v(0)), f("catch", goal, i(1), a("true")), goal,
                          f("catch", f("throw", i(1)), i(1), goal)):
                whole = query if query == goal else f(",", a("nl"), query)
                found = Machine(Program([], []), whole).run(10 ** 4)
                self.assertEqual(found[-1][0], last)
                self.assertEqual(found, Search(Program([], []), whole).run(10 ** 4))

    def test_thrown_terms(self):
        # An error takes 6 nodes around the wrong argument, and the goal 4.
        for count, last in ((193, "error"), (194, "error"), (195, "limit"), (196, "limit")):
            goal = f("arg", sized(count), f("g", a("a")), v(0))
            found = Machine(Program([], []), goal).run(10 ** 4)
            self.assertEqual([event[0] for event in found], [last])
            self.assertEqual(found, Search(Program([], []), goal).run(100))

    def test_terms_found_by_findall(self):
        for size, last in ((199, "error"), (200, "error"), (201, "limit")):
            program, _ = self.with_size(f("g", v(0)), size + 1)
            goal = f(";", f(",", f("h", v(0), v(1)), f("l", v(1))), f("throw", a("a")))
            found = Machine(program, f("findall", v(0), goal, v(2))).run(10 ** 4)
            self.assertEqual([event[0] for event in found], [last])
            self.assertEqual(found, Search(program, f("findall", v(0), goal, v(2))).run(10 ** 4))

    def test_answers(self):
        for size, last in ((200, "end"), (201, "limit")):
            program, _ = self.with_size(f("g", v(0)), size + 1)
            query = f(",", f("h", v(0), v(1)), f("l", v(1)))
            found = Machine(program, query).run(10 ** 4)
            self.assertEqual(found[-1][0], last)
            self.assertEqual(found, Search(program, query).run(10 ** 4))
        machine = Machine(read_program("p(z). p(s(X)) :- p(X)."), read("p(X)"))
        self.assertEqual(len(machine.run(10 ** 5)), 201)

    def test_the_list_of_findall(self):
        for count, limited in ((99, False), (100, True)):
            program = Program([f("p", i(number)) for number in range(count)], [])
            query = f(",", a("nl"), f("findall", v(0), f("p", v(0)), v(1)))
            found = Machine(program, query).run(10 ** 4)
            self.assertEqual(found[-1] == LIMIT, limited)
            self.assertEqual(found, Search(program, query).run(10 ** 4))

    def test_the_recovery_of_a_catch(self):
        for count in (90, 120):
            ball = sized(count)
            query = f("catch", f("throw", ball), v(0), f(",", a("true"), f("atom", f("f", v(0), v(0)))))
            found = Machine(Program([], []), query).run(10 ** 4)
            self.assertEqual(found, Search(Program([], []), query).run(10 ** 4))

    def test_goals_of_other_predicates_may_be_larger(self):
        """The machine goes on where the search has ended."""
        program = read_program("p(X) :- q(f(X, X)). q(X) :- r(f(X, X)). r(f(A, B)) :- write(a), s(A). s(A).")
        query = f("p", sized(80))
        self.assertEqual(Search(program, query).run(100), [LIMIT])
        self.assertEqual(Machine(program, query).run(1000), [("write", "a"), ("answer", []), END])

    def test_terms_that_share_parts(self):
        """No machine loads a term of any size, as a heap does."""
        for goal in ("write(X)", "call(X)", "throw(X)", "throw(f(X))", "catch(X, Y, Z)", "findall(X, true, Y)",
                     "findall(Y, X, Z)", "assertz(X)", "copy_term(X, Y)"):
            for count in (8, 17, 60):
                program = read_program(f"r(s(N), X) :- r(N, f(X, X)). r(z, X) :- {goal}.")
                query = f("r", chain("s", count, a("z")), a("a"))
                self.assertEqual(Machine(program, query).run(10000), [LIMIT])
                self.assertEqual(Search(program, query).run(10000), [LIMIT])
        program = read_program("r(s(N), X) :- r(N, f(X, X)). r(z, X).")
        for count in (8, 17, 60):
            # A machine may go on with a term that it does not load.
            tower = chain("s", count, a("z"))
            self.assertEqual(Machine(program, f("r", tower, a("a"))).run(10000), [("answer", []), END])
            query = f(",", f("=", v(0), tower), f("r", v(0), v(1)))
            self.assertEqual(Machine(program, query).run(10000), [("answer", [tower, v(0)]), END])

    def test_no_other_limit(self):
        """A machine that adds the limit does it where the search does, too."""
        source = seeded(62)
        limits = 0
        for _ in range(300):
            found, dynamic = random_prolog_program(source)
            found += clauses("q(X) :- nonvar(X), q(t(X, X)). r(X) :- catch(r(t(X, X)), E, true).")
            query = random_prolog_goal(source, 3)
            events = Machine(Program(found, dynamic), query).run(3000)
            if LIMIT in events:
                limits += 1
                search = Search(Program(found, dynamic), query).run(20000)
                self.assertEqual(search[-1], LIMIT)
                self.assertEqual(events[:len(search) - 1], search[:-1])
        self.assertGreater(limits, 5)


class Sizes(unittest.TestCase):

    def at_calls(self, program, query, name, **more):
        """The sizes at each call of a predicate."""
        machine, found = Machine(read_program(program), read(query), **more), []
        while not machine.ended():
            if machine.at_call() is not None and machine.at_call()[0] == name:
                found.append(machine.sizes())
            machine.step()
        return found

    def test_the_kind_of_value(self):
        machine = Machine(read_program("p."), read("p"))
        self.assertIs(type(machine.sizes()), tuple)
        self.assertEqual(len(machine.sizes()), 4)
        self.assertEqual(machine.sizes()[1], 0)
        self.assertEqual(machine.sizes()[3], 0)

    def test_frames_of_a_recursion(self):
        program = "d(z) :- in. d(s(X)) :- d(X), out. in. out."
        frames = [self.at_calls(program, "d(" + "s(" * depth + "z" + ")" * depth + ")",
            "in")[0][2] for depth in range(6)]
        self.assertEqual([frame - frames[0] for frame in frames], [0, 1, 2, 3, 4, 5])
        # Not where the calls are last calls.
        program = "d(z) :- in. d(s(X)) :- out, d(X). in. out."
        frames = [self.at_calls(program, "d(" + "s(" * depth + "z" + ")" * depth + ")",
            "in")[0][2] for depth in range(1, 6)]
        self.assertEqual(frames, [frames[0]] * 5)

    def test_frames_that_are_kept_for_choice_points(self):
        program = "d(z) :- in. d(s(X)) :- two, d(X). two. two. in."
        sizes = [self.at_calls(program, "d(" + "s(" * depth + "z" + ")" * depth + ")", "in")[0] for depth in range(6)]
        self.assertEqual([size[2] - sizes[0][2] for size in sizes], [0, 1, 2, 3, 4, 5])
        self.assertEqual([size[3] for size in sizes], [0, 1, 2, 3, 4, 5])

    def test_frames_are_gone_when_a_new_one_is_made(self):
        program = ("p :- deep(s(s(s(z)))), mark, q, mark. deep(z). deep(s(X)) :- deep(X), out. out. q :- mark, out. "
            "mark.")
        sizes = self.at_calls(program, "p", "mark")
        # Behind the deep call its frames are still there; q is placed behind that of p.
        self.assertEqual([size[2] - sizes[1][2] for size in sizes], [2, 0, 0])

    def test_choice_points(self):
        program = ("p(1). p(2). p(3). here. q :- (true ; here), here. r :- (p(X) -> here ; true). s :- \\+ \\+ here. "
            "two. two.")
        for query, counts in (
                ("here", [0]), ("p(X), here", [1, 1, 0]), ("p(3), here", [0]), ("p(X), p(Y), here", [2, 2, 1, 2, 2, 1,
                1, 1, 0]),
                ("q", [1, 0, 0]), ("r", [0]), ("s", [2]), ("catch(here, E, true), here", [1, 1]),
                ("findall(X, (p(X), here), L), here", [2, 2, 1, 0]), ("p(X), !, here", [0]), ("call((p(X), !)), here",
                [0]),
                ("catch((p(X), here), E, true)", [2, 2, 1]), ("(here ; here)", [1, 0]), ("\\+ here", [1]),
                ("catch(catch(here, A, true), B, true), here", [2, 2]),
                ("catch((two, throw(a)), a, here)", [0]), ("two, catch((two, throw(a)), a, here), fail", [1, 0])):
            with self.subTest(query):
                self.assertEqual([size[3] for size in self.at_calls(program, query, "here")], counts)

    def test_the_trail(self):
        program = ("here. two. two. p :- two, X = 1, here(X). here(X). q(X) :- two, X = 1, here(X). r :- X = Y, two, "
            "Y = 1, here(X).")
        for query, counts in (
                # A variable that is older than the choice point is trailed, a newer one is not.
                ("p", [0, 0]), ("q(X)", [1, 0]), ("r", [1, 0]), ("two, X = 1, here(X)", [1, 0]),
                ("X = 1, two, here(X)", [0, 0]),
                ("X = Y, Z = 1, here(X)", [0]), ("two, X = 1, two, Y = 1, here(X)", [2, 2, 1, 0]),
                ("two, X = f(Y), Y = 2, here(X)", [2, 0]), ("(X = 1 ; X = 2), here(X)", [1, 0]),
                ("two, X = 1, !, here(X)", [1]), ("catch((X = 1, throw(a)), a, true), here(X)", [0])):
            with self.subTest(query):
                self.assertEqual([size[1] for size in self.at_calls(program, query, "here")], counts)

    def test_the_heap_is_cut_on_backtracking(self):
        program = "big(1, [a, b, c, d, e, f, g, h]). big(2, x). here(X)."
        sizes = self.at_calls(program, "big(N, X), here(X)", "here")
        self.assertGreaterEqual(sizes[0][0], sizes[1][0] + 24)
        program = "p :- (X = [a, b, c, d, e, f, g, h], here(X) ; here(y)), here(z). here(X)."
        sizes = self.at_calls(program, "p", "here")
        self.assertGreaterEqual(sizes[0][0], sizes[2][0] + 24)
        self.assertEqual(len(sizes), 4)


class Plans(unittest.TestCase):

    def depths(self, program, query, plan):
        """The numbers of choice points at each call of here/0."""
        machine, found = Machine(read_program(program), read(query), plan=plan), []
        while not machine.ended():
            if machine.at_call() == ("here", 0):
                found.append(machine.sizes()[3])
            machine.step()
        return found

    def test_no_choice_point_where_one_candidate_remains(self):
        program = "p(a, 1). p(b, 1). p(a, 2). p(c, 2). p(X, 3). here."
        for query, plan, depths in (
                ("p(c, 2), here", (0,), [1]), ("p(c, 2), here", (0, 1), [0]), ("p(c, 2), here", (), [1]),
                ("p(d, X), here", (0,), [0]), ("p(a, X), here", (0,), [1, 1, 0]), ("p(a, 2), here", (0,), [1]),
                ("p(a, 2), here", (0, 1), [0]), ("p(a, 2), here", (1, 0, 1), [0]), ("p(a, 2), here", (1,), [1]),
                ("p(X, 3), here", (1,), [0]), ("p(X, Y), here", (0, 1), [1, 1, 1, 1, 0]), ("p(a, 2), here", (9,), [1]),
                ("p(e, 1), here", (0, 1), []), ("p(e, 4), here", (), [])):
            with self.subTest(query, plan=plan):
                self.assertEqual(self.depths(program, query, plan), depths)

    def test_left_out(self):
        program = "p(a, 1). p(b, 1). p(a, 2). here."
        machine, found = Machine(read_program(program), read("p(b, X), here")), []
        while not machine.ended():
            if machine.at_call() == ("here", 0):
                found.append(machine.sizes()[3])
            machine.step()
        self.assertEqual(found, [0])
        self.assertEqual(self.depths(program, "p(b, X), here", (0,)), [0])
        self.assertEqual(self.depths(program, "p(b, X), here", ()), [1])

    def test_keys_behind_references(self):
        program = "p(a). p(f(b)). p(3). p(X). q(X) :- X = Y, Y = Z, Z = 3, p(X), here. here."
        self.assertEqual(self.depths(program, "q(X)", (0,)), [1, 0])
        self.assertEqual(self.depths(program, "X = f(Y), p(X), here", (0,)), [1, 0])

    def test_a_call_without_candidates_backtracks(self):
        machine = Machine(read_program("p(a). p(b)."), read("p(c)"))
        self.assertEqual(machine.run(100), [END])
        machine = Machine(read_program("p(a). p(b)."), read("catch(p(c), E, true) ; X = 1"))
        self.assertEqual(machine.run(100), [("answer", [v(0), i(1)]), END])


class BuiltIns(Running):

    def test_tables_of_40_and_41_calls(self):
        program = "k(z). k(s(X)) :- k(X)."
        for calls, event in ((40, ("answer", [])), (41, LIMIT)):
            query = f(",", f("write", a("a")), f("tabled", f("k", chain("s", calls - 1, a("z")))))
            for kind in (Machine, Search):
                self.assertEqual(kind(read_program(program), query).run(10 ** 5)[:2], [("write", "a"), event])

    def test_tables_of_200_and_201_answers(self):
        for count in (200, 201):
            program = Program([*facts(count - 100), *[f("q", i(number)) for number in range(100)]][:200], [])
            if count == 200:
                found = Machine(Program(facts(200), []), read("tabled(p(X))")).run(10 ** 5)
                self.assertEqual(found, [("answer", [i(number)]) for number in range(200)] + [END])
                self.assertEqual(found, Search(Program(facts(200), []), read("tabled(p(X))")).run(10 ** 5))
            else:
                rows = [f("p", i(number)) for number in range(100)]
                program = Program([*rows, *[f("q", i(number)) for number in range(99)],
                                   read("q(X) :- p(X), p(100)"), f("p", i(100))][:199] + [read("r(X) :- p(X), q(X)")],
                                   [])
                self.compare(program, read("tabled(r(X))"))
        program = Program(facts(100) + [read("q(X) :- p(X)"), read("q(a)")], [])
        self.assertEqual(Machine(program, read("tabled(q(X))")).run(10 ** 5), [LIMIT])
        self.assertEqual(Search(program, read("tabled(q(X))")).run(10 ** 5), [LIMIT])
        program = Program(facts(100) + [read("q(X) :- p(X)")], [])
        self.assertEqual(len(Machine(program, read("tabled(q(X))")).run(10 ** 5)), 101)

    def test_200_and_201_solutions(self):
        for high, count in ((40, 200), (41, None)):
            query = read(f"write(a), solve([X, Y], [X in 0 .. 4, Y in 1 .. {high}])")
            for kind in (Machine, Search):
                events = kind(Program([], []), query).run(10 ** 5)
                self.assertEqual(events[0], ("write", "a"))
                self.assertEqual(events[1:] == [LIMIT], count is None)
                if count is not None:
                    self.assertEqual(len(events), count + 2)

    def test_errors_in_their_order(self):
        for program, query, culprit in (
                ("", "tabled(X)", "instantiation_error"), ("", "tabled(3)", "type_error(callable,3)"),
                ("p :- q, none. q :- r ; s.", "tabled(p)", "type_error(definite,/(q,0))"),
                ("p :- none, q. q :- r ; s.", "tabled(p)", "existence_error(procedure,/(none,0))"),
                ("p :- !. p :- none.", "tabled(p)", "type_error(definite,/(p,0))"),
                ("p :- q. q :- nl.", "tabled(p)", "type_error(definite,/(q,0))"),
                ("", "tabled(call(p))", "type_error(definite,/(call,1))"), ("", "tabled(!)",
                "type_error(definite,/(!,0))"),
                ("", "solve(X, foo)", "instantiation_error"), ("", "solve([a|X], [foo])", "instantiation_error"),
                ("", "solve([], foo)", "instantiation_error"), ("", "solve([a], [foo, X < 3])",
                "type_error(constraint,foo)"),
                ("", "solve([a], [X < 3, X in 1 .. 2, bar])", "type_error(constraint,bar)"),
                ("", "solve([a], [Y < 3, X in 1 .. 2])", "type_error(constraint,_0 < 3)"),
                ("", "solve([a], [X in 1 .. 51])", "type_error(constraint,_0 in 1 .. 51)"),
                ("", "solve([1, a, b], [X in 1 .. 2])", "type_error(variable,a)"),
                ("", "solve([X, Y], [X in 1 .. 2])", "type_error(variable,_0)")):
            events = self.compare_text(program, query).run(0)
            self.assertEqual([event[0] for event in events], ["error"])
            self.assertTrue(shown(events[0][1]).startswith(f"error({culprit},"), shown(events[0][1]))

    def test_the_present_clauses(self):
        program = ":- dynamic(p, 1). p(2). q(X) :- p(X). q(0)."
        for query in ("tabled(q(X))", "assertz(p(3)), tabled(q(X))", "asserta(p(1)), tabled(q(X))",
            "retract(p(2)), tabled(q(X))",
                      "tabled(q(X)), assertz(p(7)), tabled(q(Y)), !",
                      "assertz((p(X) :- r(X))), catch(tabled(q(X)), E, true)",
                      "assertz((p(X) :- X)), catch(tabled(q(X)), E, true)",
                      "tabled(q(X)), asserta(p(7)), fail ; tabled(q(Y))"):
            self.compare_text(program, query)

    def test_alternatives_are_left_by_cuts(self):
        for query in ("tabled(p(X)), !", "tabled(p(X)), 1 < X", "(tabled(p(X)) -> true ; true)", "\\+ tabled(p(9))",
                      "findall(X, tabled(p(X)), L)", "catch((tabled(p(X)), X = 2, throw(X)), Y, true)",
                      "solve([X], [X in 1 .. 4]), tabled(p(X))", "tabled(p(X)), solve([X, Y], [Y in 1 .. 2])"):
            self.compare_text("p(1). p(2). p(3).", query)


class LongRuns(unittest.TestCase):

    def run_text(self, program, query, seconds, **more):
        started = time.time()
        machine = Machine(read_program(program), read(query), **more)
        events = machine.run(10 ** 6)
        self.assertIs(machine.ended(), True)
        self.assertLess(time.time() - started, seconds)
        return events

    def test_lists(self):
        whole = "[" + ", ".join(str(number) for number in range(60)) + "]"
        program = REVERSE + f"go(X) :- rev({whole}, X)."
        with_all = self.run_text(program, "go([X|_])", 20)
        self.assertEqual(with_all, [("answer", [i(59), *with_all[0][1][1:]]), END])
        for collect_at in (tuple(range(0, 20000, 50)), tuple(range(0, 20000, 7)), tuple(range(3000, 5000))):
            self.assertEqual(self.run_text(program, "go([X|_])", 30, collect_at=collect_at), with_all)

    def test_counting(self):
        program = ("c(0) :- !. c(N) :- M is N - 1, c(M). s(0, S, S) :- !. s(N, A, S) :- B is A + N, M is N - 1, s(M, "
            "B, S).")
        self.assertEqual(self.run_text(program, "c(4000)", 20), [("answer", []), END])
        for collect_at in ((), tuple(range(0, 20000, 3)), tuple(range(6000))):
            self.assertEqual(self.run_text(program, "s(1000, 0, S)", 30, collect_at=collect_at), [("answer",
                [i(500500)]), END])

    def test_backtracking(self):
        for collect_at in ((), tuple(range(0, 40000, 11))):
            events = self.run_text(QUEENS, "queens(5, X)", 30, collect_at=collect_at)
            self.assertEqual(len(events), 11)
        program = ("len([], 0). len([_|T], N) :- len(T, M), N is M + 1. mk(0, []). mk(N, [N|T]) :- 0 < N, M is N - 1, "
            "mk(M, T). go(N) :- mk(800, L), len(L, N).")
        for plan in ((), (0,)):
            self.assertEqual(self.run_text(program, "go(N)", 20, plan=plan),
                             [("answer", [i(800)]), END])

    def test_runs_that_do_not_end(self):
        for program in ("p(X) :- p(X).", "p(X) :- p(X), p(X).", "p(X) :- p(f(X)).",
            "p(X) :- q(X, Y), p(f(Y)). q(X, X).",
                        "p(X) :- (p(X) ; true)."):
            machine = Machine(read_program(program), read("p(a)"))
            started = time.time()
            self.assertEqual(machine.run(3000), [])
            self.assertIs(machine.ended(), False)
            self.assertLess(time.time() - started, 10)


if __name__ == "__main__":
    unittest.main()
