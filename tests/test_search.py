"""Points 22 to 26, 29, 97 and 103, and hornbook/search.py."""

import time
import unittest

from helper import a, chain, f, facts, i, items, left_chain, read, seeded, shown, sized, v
from hornbook.errors import TooLarge
from hornbook.primitives import perform
from hornbook.program import Program, goal_form, is_built_in, is_control, read_program
from hornbook.search import Search
from hornbook.terms import parts, renumber, variables
from hornbook.unify import apply, unify

LIMIT, END = ("limit",), ("end",)


class End(Exception):
    """The search ends with an event."""


def together(terms):
    """The terms renumbered together."""
    return parts_of(renumber(joined(terms)))


def joined(terms):
    found = (("f", "f", 0),) if not terms else (("f", "f", 1), *terms[0])
    for term in terms[1:]:
        found = (("f", "f", 2), *found, *term)
    return found


def parts_of(term):
    found = []
    while term[0] == ("f", "f", 2):
        left, right = parts(term)
        found.insert(0, right)
        term = left
    return found if len(term) == 1 else [term[1:], *found]


class WordSearch:
    """The search, word by word: all terms of all items are substituted in each step."""

    def __init__(self, program, query):
        self.program, self.events, self.choices, self.over = program, [], [], False
        self.first = max([number + 1 for number in variables(query)], default=0)
        query_form = goal_form(query)
        self.list = [("goal", query_form, 0), ("answer", [v(number) for number in sorted(variables(query))])]
        if len(query_form) > 200:
            self.finish(("limit",))

    def finish(self, event):
        self.events.append(event)
        self.over = True

    def step(self):
        if self.over:
            return
        try:
            self.take(self.list[0], self.list[1:])
            for item in self.list:
                terms = item[1] if item[0] == "answer" else [item[2]] if item[0] == "found" else \
                    [item[1]] if item[0] == "goal" else []
                if any(len(term) > 200 for term in terms):
                    raise TooLarge("")
        except TooLarge:
            self.finish(("limit",))
        except End as end:
            self.finish(end.args[0])

    def fresh(self, terms):
        renamed = [apply({number: v(self.first + at) for at, number in enumerate(variables(joined(terms)))}, term)
                   for term in terms]
        self.first += len(variables(joined(terms)))
        return renamed

    def substitute(self, given, unifier):
        self.list = []
        for item in given:
            if item[0] == "answer":
                item = ("answer", [apply(unifier, term) for term in item[1]])
            elif item[0] == "goal":
                item = ("goal", apply(unifier, item[1]), item[2])
            elif item[0] == "found":
                item = ("found", item[1], apply(unifier, item[2]))
            self.list.append(item)

    def take(self, item, rest):
        if item[0] == "answer":
            self.events.append(("answer", together(item[1])))
            self.backtrack()
        elif item[0] == "commit":
            del self.choices[item[1]:]
            self.list = rest
        elif item[0] == "exit":
            self.list = rest
        elif item[0] == "found":
            self.choices[item[1]][1].append(renumber(item[2]))
            self.backtrack()
        else:
            self.goal(item[1], item[2], rest)

    def goal(self, goal, level, rest):
        name, arity = goal[0][1], goal[0][2]
        words, n = parts(goal), len(self.choices)
        if is_control(name, arity):
            self.control(goal, name, words, level, rest, n)
        elif is_built_in(name, arity):
            self.built_in(goal, rest)
        else:
            clauses = self.program.predicate(name, arity)
            if not clauses and not self.program.is_dynamic(name, arity):
                self.throw(f("error", f("existence_error", a("procedure"), f("/", a(name), i(arity))),
                             f("/", a(name), i(arity))), rest)
            else:
                self.attempt(goal, clauses, rest, n)

    def control(self, goal, name, words, level, rest, n):
        fail = ("goal", a("fail"), level)
        if name == "true":
            self.list = rest
        elif name == "fail":
            self.backtrack()
        elif name == "!":
            del self.choices[level:]
            self.list = rest
        elif name == ",":
            self.list = [("goal", words[0], level), ("goal", words[1], level)] + rest
        elif name == "->" or (name == ";" and words[0][0] == ("f", "->", 2)):
            condition, then = words if name == "->" else parts(words[0])
            otherwise = fail if name == "->" else ("goal", words[1], level)
            self.choices.append(("items", [otherwise] + rest))
            self.list = [("goal", condition, n + 1), ("commit", n), ("goal", then, level)] + rest
        elif name == ";":
            self.choices.append(("items", [("goal", words[1], level)] + rest))
            self.list = [("goal", words[0], level)] + rest
        elif name == "\\+":
            self.choices.append(("items", rest))
            self.list = [("goal", words[0], n + 1), ("commit", n), ("goal", a("fail"), n)] + rest
        elif name == "catch":
            self.choices.append(("catch", words[1], words[2], rest))
            self.list = [("goal", goal_form(words[0]), n + 1), ("exit", n)] + rest
        elif name == "findall":
            self.choices.append(("findall", [], words[2], rest))
            self.list = [("goal", goal_form(words[1]), n + 1), ("found", n, words[0])] + rest
        elif name == "throw":
            if isinstance(words[0][0], tuple) and words[0][0][0] == "v":
                self.error(a("instantiation_error"), goal, rest)
            else:
                self.throw(words[0], rest)
        else:
            self.call(goal, words, rest, n)

    def call(self, goal, words, rest, n):
        node = words[0][0]
        if not isinstance(node, tuple):
            self.error(f("type_error", a("callable"), words[0]), goal, rest)
        elif node[0] == "v":
            self.error(a("instantiation_error"), goal, rest)
        elif node[2] + len(words) > 9:
            self.error(f("representation_error", a("arity")), goal, rest)
        else:
            self.list = [("goal", goal_form(f(node[1], *parts(words[0]), *words[1:])), n)] + rest

    def attempt(self, goal, clauses, rest, n):
        if not clauses:
            self.backtrack()
            return
        if len(clauses) > 1:
            self.choices.append(("clauses", goal, clauses[1:], rest))
        head, body = self.fresh(clauses[0])
        unifier = unify(head, goal)
        if unifier is None:
            self.backtrack()
        else:
            self.substitute([("goal", goal_form(body), n)] + rest, unifier)

    def built_in(self, goal, rest):
        result = perform(goal, self.first, self.program)
        if result[0] == "true":
            self.list = rest
        elif result[0] == "fail":
            self.backtrack()
        elif result[0] == "raise":
            self.error(result[1], goal, rest)
        elif result[0] == "write":
            self.events.append(result)
            self.list = rest
        elif result[0] == "alternatives":
            self.first = result[3]
            self.attempt(result[1], [(term, a("true")) for term in result[2]], rest, len(self.choices))
        else:
            if result[0] == "change":
                self.program = result[1]
            left, right, self.first = result[-3:]
            unifier = unify(left, right)
            if unifier is None:
                self.backtrack()
            else:
                self.substitute(rest, unifier)

    def backtrack(self):
        while True:
            if not self.choices:
                raise End(("end",))
            choice = self.choices.pop()
            if choice[0] == "items":
                self.list = choice[1]
                return
            if choice[0] == "clauses":
                self.attempt(*choice[1:], len(self.choices))
                return
            if choice[0] == "findall":
                found = items(*[self.fresh([term])[0] for term in choice[1]])
                if len(found) > 200:
                    raise TooLarge("")
                unifier = unify(found, choice[2])
                if unifier is not None:
                    self.substitute(choice[3], unifier)
                    return

    def error(self, error, goal, rest):
        self.throw(f("error", error, f("/", a(goal[0][1]), i(goal[0][2]))), rest)

    def throw(self, ball, rest):
        if len(ball) > 200:
            raise TooLarge("")
        ball = self.fresh([ball])[0]
        for item in rest:
            if item[0] == "exit":
                _, catcher, recovery, behind = self.choices[item[1]]
                del self.choices[item[1]:]
                unifier = unify(catcher, ball)
                if unifier is not None:
                    self.substitute(behind, unifier)
                    self.list.insert(0, ("goal", goal_form(apply(unifier, recovery)), item[1]))
                    return
        raise End(("error", renumber(ball)))


def numbered(term):
    """The text of a term with the numbers that its variables have."""
    text = shown(apply({number: a(f"_{number}") for number in variables(term)}, term))
    for number in variables(term):
        text = text.replace(f"'_{number}'", f"_{number}")
    return text


def told(events):
    """The events with the terms as text."""
    found = []
    for event in events:
        if event[0] == "answer":
            found.append(("answer", *[numbered(term) for term in event[1]]))
        elif event[0] == "error":
            found.append(("error", shown(event[1])))
        else:
            found.append(event)
    return found


def answers(*rows):
    """The events of these answers and of the end."""
    return [("answer", *row.split(" ; ")) if row else ("answer",) for row in rows] + [END]


def error(text):
    return [("error", shown(read(text)))]


class Searching(unittest.TestCase):

    def check(self, program, query, expected, steps=5000):
        program = read_program(program) if isinstance(program, str) else program
        query = read(query) if isinstance(query, str) else query
        with self.subTest(shown(query) if len(query) < 100 else "long"):
            search = Search(program, query)
            self.assertEqual(told(search.run(steps)), expected)
            self.assertIs(search.ended(), True)
        return search

    def written(self, program, query, text, *end):
        """The text that is written, and the answers and the other events."""
        search = Search(read_program(program), read(query))
        events = told(search.run(5000))
        with self.subTest(query):
            self.assertEqual("".join(event[1] for event in events if event[0] == "write"), text)
            self.assertEqual([event for event in events if event[0] != "write"], list(end))


class Steps(Searching):

    def test_each_step(self):
        program = read_program("p(1). p(2).")
        search = Search(program, read("p(X), write(X)"))
        states = []
        for _ in range(9):
            states.append((told(search.run(0)), search.depth(), search.ended()))
            self.assertIsNone(search.step())
        first, second = ("write", "1"), ("write", "2")
        done = [first, ("answer", "1"), second, ("answer", "2"), END]
        self.assertEqual(states, [
            ([], 0, False),                 # p(X), write(X)
            ([], 0, False),                 # p(X)
            ([], 1, False),                 # true
            ([], 1, False),                 # write(1)
            ([first], 1, False),            # the answer
            (done[:2], 0, False),           # true
            (done[:2], 0, False),           # write(2)
            (done[:3], 0, False),           # the answer
            (done, 0, True)])

    def test_run(self):
        program = read_program("p(1). p(2).")
        search = Search(program, read("p(X)"))
        self.assertEqual(search.run(0), [])
        self.assertEqual(search.run(2), [])
        self.assertEqual(search.run(1), [("answer", [i(1)])])
        self.assertEqual(search.run(0), [("answer", [i(1)])])
        self.assertIs(search.ended(), False)
        self.assertEqual(search.run(100), [("answer", [i(1)]), ("answer", [i(2)]), END])
        self.assertIs(search.ended(), True)
        self.assertEqual(search.run(100), [("answer", [i(1)]), ("answer", [i(2)]), END])
        self.assertIsNone(search.step())
        self.assertEqual(len(search.run(0)), 3)

    def test_results_are_apart(self):
        search = Search(read_program("p(1)."), read("p(X)"))
        events = search.run(100)
        events[0][1].append("more")
        events.append("more")
        self.assertEqual(search.run(100), [("answer", [i(1)]), END])

    def test_the_program_is_a_copy(self):
        program = read_program(":- dynamic(p, 1). p(1).")
        one = Search(program, read("assertz(p(2)), p(X)"))
        other = Search(program, read("p(X)"))
        self.assertEqual(told(one.run(100)), answers("1", "2"))
        self.assertEqual(told(other.run(100)), answers("1"))
        self.assertEqual(len(program.clauses()), 1)
        self.assertEqual(len(one.program().clauses()), 2)
        self.assertIsInstance(one.program(), Program)
        self.assertEqual(other.program().clauses(), program.clauses())
        self.assertIs(one.program().is_dynamic("p", 1), True)

    def test_the_program_after_each_step(self):
        search = Search(read_program(":- dynamic(p, 1)."), read("assertz(p(2)), asserta(p(1)), retract(p(2))"))
        sizes = []
        for _ in range(6):
            sizes.append(len(search.program().clauses()))
            search.step()
        self.assertEqual(sizes, [0, 0, 1, 1, 2, 1])
        self.assertEqual(search.program().clauses(), [(f("p", i(1)), a("true"))])

    def test_depth(self):
        search = Search(read_program("p(1). p(2). p(3)."), read("p(X), p(Y), ! , p(Z)"))
        depths = []
        for _ in range(10):
            depths.append(search.depth())
            search.step()
        self.assertEqual(depths, [0, 0, 1, 1, 1, 2, 2, 2, 0, 1])

    def test_queries_without_variables(self):
        self.check("p.", "p", answers(""))
        self.check("", "true", answers(""))
        self.check("", "fail", [END])

    def test_variables_of_the_query_in_order_of_their_numbers(self):
        search = Search(read_program("p(Z, Y, X) :- X = f(Y, Z)."), f("p", v(9), v(2), v(5)))
        self.assertEqual(search.run(100), [("answer", [v(0), f("f", v(0), v(1)), v(1)]), END])

    def test_answers_are_renumbered_together(self):
        search = Search(read_program("p(f(A, B), B, C)."), f("p", v(7), v(8), v(9)))
        self.assertEqual(search.run(100), [("answer", [f("f", v(0), v(1)), v(1), v(2)]), END])

    def test_the_argument_is_not_changed(self):
        query = f(",", f("p", v(3)), f("p", v(4)))
        before = tuple(query)
        Search(read_program("p(1). p(2)."), query).run(100)
        self.assertEqual(query, before)


class Control(Searching):

    def test_conjunctions_and_disjunctions(self):
        self.check("p(1). p(2).", "p(X), p(Y)", answers("1 ; 1", "1 ; 2", "2 ; 1", "2 ; 2"))
        self.check("", "X = 1 ; X = 2 ; X = 3", answers("1", "2", "3"))
        self.check("", "(X = 1 ; X = 2) ; X = 3", answers("1", "2", "3"))
        self.check("", "(X = 1 ; X = 2), (Y = a ; Y = b)", answers("1 ; a", "1 ; b", "2 ; a", "2 ; b"))
        self.check("", "fail ; true", answers(""))
        self.check("", "true, fail ; fail", [END])

    def test_the_cut_in_a_clause(self):
        program = "p(1). p(2). q(X) :- p(X), !. q(3). r(X) :- !, p(X). r(3). s(X) :- p(X). s(X) :- !, X = 4. s(5)."
        self.check(program, "q(X)", answers("1"))
        self.check(program, "r(X)", answers("1", "2"))
        self.check(program, "s(X)", answers("1", "2", "4"))
        self.check(program, "p(X), q(Y)", answers("1 ; 1", "2 ; 1"))
        self.check(program, "p(X), !", answers("1"))
        self.check(program, "p(X), !, p(Y)", answers("1 ; 1", "1 ; 2"))
        self.check("t :- p(X), q, !. t. p(1). p(2). q :- fail.", "t", answers(""))

    def test_the_cut_in_a_disjunction(self):
        self.check("p(X) :- (X = 1 ; X = 2, ! ; X = 3). p(4).", "p(X)", answers("1", "2"))
        self.check("p(X) :- (! , X = 1 ; X = 2). p(3).", "p(X)", answers("1"))
        self.check("", "(X = 1 ; X = 2), !", answers("1"))
        self.check("", "(!, X = 1 ; X = 2) ; X = 3", answers("1"))

    def test_the_cut_in_a_condition(self):
        program = "p(1). p(2). p(3). q(X) :- (p(X), ! -> true ; X = 5). q(6). r(X) :- (p(Y) -> !, p(X) ; true). r(7)."
        self.check(program, "q(X)", answers("1", "6"))
        self.check(program, "r(X)", answers("1", "2", "3"))
        self.check("q(X) :- (fail -> true ; !, X = 5). q(6).", "q(X)", answers("5"))
        self.check("q(X) :- (! -> X = 1). q(6).", "q(X)", answers("1", "6"))
        self.check("p(1). p(2). q(X) :- (p(X), !, X = 2 -> true ; X = 5).", "q(X)", answers("5"))
        self.check("p(1). p(2). q(X) :- (p(X), !, X = 2 -> true). q(6).", "q(X)", answers("6"))

    def test_the_cut_in_a_negation(self):
        self.check("p :- \\+ (!, fail). p.", "p", answers("", ""))
        self.check("p(1). p(2).", "\\+ (p(X), !, X = 2)", answers("_0"))
        self.check("p(1). p(2). q(X) :- p(X), \\+ \\+ !.", "q(X)", answers("1", "2"))

    def test_the_cut_in_call_catch_and_findall(self):
        program = "p(1). p(2). "
        self.check(program + "q(X) :- call((p(X), !)). q(3).", "q(X)", answers("1", "3"))
        self.check(program + "q(X) :- p(X), call(!). q(3).", "q(X)", answers("1", "2", "3"))
        self.check(program + "q(X) :- G = !, p(X), G. q(3).", "q(X)", answers("1", "2", "3"))
        self.check(program + "q(X) :- catch((p(X), !), E, true). q(3).", "q(X)", answers("1", "3"))
        self.check(program + "q(X) :- p(X), catch(!, E, true). q(3).", "q(X)", answers("1", "2", "3"))
        self.check(program + "q(X) :- p(X), catch(throw(a), E, !). q(3).", "q(X)", answers("1", "2", "3"))
        self.check(program + "q(X) :- findall(Y, (p(Y), !), X). q(3).", "q(X)", answers("[1]", "3"))
        self.check(program + "q(X) :- catch(p(X), E, true), !. q(3).", "q(X)", answers("1"))

    def test_if_then_else(self):
        program = "p(1). p(2). "
        self.check(program, "(p(X) -> p(Y) ; Y = 3)", answers("1 ; 1", "1 ; 2"))
        self.check(program, "(p(5) -> p(Y) ; p(Y))", answers("1", "2"))
        self.check(program, "(p(X) -> p(Y) ; fail), Y = 2", answers("1 ; 2"))
        self.check(program, "(fail -> true ; fail ; X = 1)", answers("1"))
        self.check(program, "(p(X), X = 2 -> true ; X = 5)", answers("2"))
        self.check(program, "(true -> (fail -> X = 1 ; X = 2) ; X = 3)", answers("2"))
        self.check(program, "((fail ; true) -> X = 1 ; X = 2)", answers("1"))
        self.check(program, "(fail -> X = 1 ; fail -> X = 2 ; X = 3)", answers("3"))
        self.check(program, "(true -> fail ; true)", [END])

    def test_if_then_without_else(self):
        program = "p(1). p(2). "
        self.check(program, "p(X) -> p(Y)", answers("1 ; 1", "1 ; 2"))
        self.check(program, "p(5) -> true", [END])
        self.check(program, "X = 1 ; (p(5) -> true)", answers("1"))
        self.check(program, "X = 1 ; p(X) -> true", answers("1", "1"))
        self.check(program, "(p(X) -> true), p(Y)", answers("1 ; 1", "1 ; 2"))

    def test_a_variable_that_becomes_a_condition_is_none(self):
        self.check("", "C = (fail -> true), (C ; X = 1)", answers("fail -> true ; 1"))
        self.check("", "C = (true -> true), (C ; X = 1)", answers("true -> true ; _0", "true -> true ; 1"))

    def test_negation(self):
        program = "p(1). p(2). "
        self.check(program, "\\+ p(3)", answers(""))
        self.check(program, "\\+ p(X)", [END])
        self.check(program, "\\+ \\+ p(X)", answers("_0"))
        self.check(program, "p(X), \\+ X = 1", answers("2"))
        self.check(program, "\\+ \\+ \\+ fail", answers(""))
        self.check(program, "p(X), \\+ (p(Y), X = 1, Y = 2)", answers("2 ; _0"))

    def test_call(self):
        program = "p(1). p(2). app([], Y, Y). app([H | X], Y, [H | Z]) :- app(X, Y, Z)."
        self.check(program, "call(p(X))", answers("1", "2"))
        self.check(program, "call(p, X)", answers("1", "2"))
        self.check(program, "call(app, [1], [2], X)", answers("[1,2]"))
        self.check(program, "call(app([1]), [2], X)", answers("[1,2]"))
        self.check(program, "call((p(X), X = 2))", answers("2"))
        self.check(program, "call(','(p(X)), X = 2)", answers("2"))
        self.check(program, "call(call, call, p, X)", answers("1", "2"))
        self.check(program, "call(;, X = 1, X = 2)", answers("1", "2"))
        self.check(program, "G = p(X), G", answers("p(1) ; 1", "p(2) ; 2"))
        self.check(program, "call((fail ; true))", answers(""))
        seven = "f(A, B, C, D, E, F, G, H) :- A = 1, H = 8."
        self.check(seven, "call(f(A), 2, 3, 4, 5, 6, 7, H)", answers("1 ; 8"))

    def test_call_errors(self):
        self.check("", "call(X)", error("error(instantiation_error, '/'(call, 1))"))
        self.check("", "call(3)", error("error(type_error(callable, 3), '/'(call, 1))"))
        self.check("", "call(X, 1)", error("error(instantiation_error, '/'(call, 2))"))
        self.check("", "call(-3, X, Y, Z)", error("error(type_error(callable, -3), '/'(call, 4))"))
        for count in range(1, 8):
            goal = f("call", f("g", *[i(k) for k in range(9 - count)]), *[i(k) for k in range(count)])
            self.check("", goal, error(f"error(representation_error(arity), '/'(call, {count + 1}))"))
        self.check("", "call((fail, 3))", [END])
        self.check("", "call((3, fail))", error("error(type_error(callable, 3), '/'(call, 1))"))
        self.check("", "call((true, X))", error("error(instantiation_error, '/'(call, 1))"))
        self.check("", "call(f(A, B, C, D, E, F, G, H))",
                   error("error(existence_error(procedure, '/'(f, 8)), '/'(f, 8))"))

    def test_variables_and_integers_as_goals(self):
        instantiation = error("error(instantiation_error, '/'(call, 1))")
        self.check("", "X", instantiation)
        self.check("", "3", error("error(type_error(callable, 3), '/'(call, 1))"))
        self.check("", "true, X", instantiation)
        self.check("", "(fail ; X)", instantiation)
        self.check("", "(X -> true ; true)", instantiation)
        self.check("", "\\+ X", instantiation)
        self.check("p :- X.", "p", instantiation)
        self.check("p(X) :- X. q.", "p(q)", answers(""))
        self.check("p(X) :- X, 7. q.", "p(q)", error("error(type_error(callable, 7), '/'(call, 1))"))
        self.check("", "X = true, X", answers("true"))
        self.check("", "X = (Y = 1 ; Y = 2), X", [
            ("answer", "1 = 1 ; 1 = 2", "1"), ("answer", "2 = 1 ; 2 = 2", "2"), END])
        self.check("", "catch(X, E, true)", answers("_0 ; error(instantiation_error,/(call,1))"))
        self.check("", "findall(X, Y, Z)", instantiation)

    def test_steps_of_control_constructs(self):
        for query, steps in (("true", 2), ("fail", 1), ("true, true", 4), ("true ; fail", 4),
                             ("(true -> true ; true)", 5), ("\\+ fail", 3), ("call(true)", 3),
                             ("catch(true, E, true)", 4), ("!", 2), ("X", 1),
                             ("findall(X, true, L)", 4), ("X = 1", 2), ("\\+ true", 4), ("(true -> true)", 5),
                             ("catch(throw(a), E, true)", 4), ("throw(a)", 1)):
            search = Search(Program([], []), read(query))
            search.run(steps - 1)
            self.assertIs(search.ended(), False, query)
            search.step()
            self.assertIs(search.ended(), True, query)

    def test_nested_constructs(self):
        self.written("p(1). p(2). p(3).",
                     "p(X), (X = 1 -> write(a) ; \\+ X = 2 -> write(b) ; (write(c) ; write(d), !))", "acd",
                     ("answer", "1"), ("answer", "2"), ("answer", "2"), END)

    def test_findall(self):
        program = "p(1). p(2). "
        self.check(program, "findall(X, p(X), L)", answers("_0 ; [1,2]"))
        self.check(program, "findall(X, fail, L)", answers("_0 ; []"))
        self.check(program, "findall(f(X, Y), p(X), L)", answers("_0 ; _1 ; [f(1,_2),f(2,_3)]"))
        self.check(program, "findall(Y, p(X), [A, B])", answers("_0 ; _1 ; _2 ; _3"))
        self.check(program, "findall(X, p(X), [1])", [END])
        self.check(program, "findall(X, p(X), [Y | Z]), Y = 1", answers("_0 ; 1 ; [2]"))
        self.check(program, "findall(X, (p(X) ; p(X)), L), p(Y)", answers("_0 ; [1,2,1,2] ; 1", "_0 ; [1,2,1,2] ; 2"))
        self.check(program, "findall(L, findall(X, p(X), L), M)", answers("_0 ; _1 ; [[1,2]]"))
        self.check(program, "findall(X, p(X), foo)", [END])
        self.check(program, "findall(3, p(X), L)", answers("_0 ; [3,3]"))
        self.check(program, "X = 5, findall(X, p(Y), L)", answers("5 ; _0 ; [5,5]"))
        self.check(program, "findall(X, G, L)", error("error(instantiation_error, '/'(call, 1))"))
        self.check(program, "findall(X, 3, L)", error("error(type_error(callable, 3), '/'(call, 1))"))
        self.check(program, "findall(X, (p(X), throw(x)), L)", error("x"))
        self.check(program, "catch(findall(X, (p(X), X = 2, throw(X)), L), E, true)", answers("_0 ; _1 ; 2"))


class Predicates(Searching):

    def test_the_order_of_the_clauses(self):
        self.check("p(b). p(a). p(c).", "p(X)", answers("b", "a", "c"))
        self.check("p(1). q(1). p(2). q(2).", "p(X), q(X)", answers("1", "2"))
        self.check("p(f(X), X). p(Y, Y).", "p(A, B)", answers("f(_0) ; _0", "_0 ; _0"))

    def test_missing_predicates(self):
        for query in ("p(1)", "p(X) ; true", "q"):
            self.check("q :- p(2).", query, error("error(existence_error(procedure, '/'(p, 1)), '/'(p, 1))"))
        self.check("p(1, 2).", "p(1)", error("error(existence_error(procedure, '/'(p, 1)), '/'(p, 1))"))
        self.check("", "[a]", error("error(existence_error(procedure, '/'('.', 2)), '/'('.', 2))"))
        self.check("", "call", error("error(existence_error(procedure, '/'(call, 0)), '/'(call, 0))"))

    def test_dynamic_predicates_without_clauses(self):
        self.check(":- dynamic(p, 1).", "p(1)", [END])
        self.check(":- dynamic(p, 1).", "p(1) ; true", answers(""))
        self.check(":- dynamic(p, 1).", "p", error("error(existence_error(procedure, '/'(p, 0)), '/'(p, 0))"))

    def test_the_example(self):
        search = Search(read_program("p(1). p(2)."), read("(p(X) ; X = 3), write(X), X \\= 1, !"))
        self.assertEqual(search.run(1000), [("write", "1"), ("write", "2"), ("answer", [(2,)]), END])

    def test_recursion(self):
        program = "app([], Y, Y). app([H | X], Y, [H | Z]) :- app(X, Y, Z). n(z). n(s(X)) :- n(X)."
        self.check(program, "app(X, Y, [a, b])", answers("[] ; [a,b]", "[a] ; [b]", "[a,b] ; []"))
        self.check(program, "app([a], X, Y)", answers("_0 ; [a|_0]"))
        search = Search(read_program(program), read("n(X)"))
        self.assertEqual(told(search.run(12))[:3], answers("z", "s(z)", "s(s(z))")[:3])
        self.assertIs(search.ended(), False)

    def test_new_variables_in_each_call(self):
        self.check("p(X, Y, Z).", "p(A, B, A), p(C, A, C)", answers("_0 ; _1 ; _2"))
        self.check("p(f(X)). q(X) :- p(X), p(Y).", "q(A), q(B)", answers("f(_0) ; f(_1)"))

    def test_choice_points(self):
        search = Search(read_program("p(1). p(2). q(1). q(X) :- p(X)."), read("q(X), X = 2"))
        depths = []
        while not search.ended():
            depths.append(search.depth())
            search.step()
        self.assertEqual(depths, [0, 0, 1, 1, 0, 1, 1, 0, 0, 0])

    def test_long_searches(self):
        begin = time.process_time()
        program = "c(N) :- M is N - 1, (M =:= 0 -> true ; c(M)). "
        program += "d(0, 0) :- !. d(N, L) :- M is N - 1, d(M, K), L is K + 1."
        self.check(program, "c(2000)", answers(""), 100000)
        self.check(program, "d(1500, L)", answers("1500"), 100000)
        self.check("p. p. q :- p, fail. q :- p, p, p, fail. q.", "q, q, q, q", answers(""), 100000)
        self.assertLess(time.process_time() - begin, 60)

    def test_many_clauses(self):
        self.check(Program(facts(200), []), "p(X), X = 199", answers("199"))
        self.check(Program(facts(200), []), "p(150)", answers(""))


class Catching(Searching):

    def test_catch(self):
        self.check("", "catch(throw(a), X, true)", answers("a"))
        self.check("", "catch(throw(f(a, Y)), f(X, b), true)", answers("_0 ; a"))
        self.check("", "catch(throw(a), b, true)", error("a"))
        self.check("", "catch(true, X, fail)", answers("_0"))
        self.check("", "catch(fail, X, true)", [END])
        self.check("", "throw(a)", error("a"))
        self.check("", "throw(f(X, Y, X))", error("f(A, B, A)"))
        self.check("", "throw(X)", error("error(instantiation_error, '/'(throw, 1))"))
        self.check("", "throw(3)", error("3"))
        self.check("", "catch(throw(X), E, true)", answers("_0 ; error(instantiation_error,/(throw,1))"))

    def test_the_thrown_term_has_new_variables(self):
        self.check("", "catch((Y = f(X), throw(Y)), Z, true)", answers("_0 ; _1 ; f(_2)"))
        self.check("", "catch(throw(f(X, X)), f(Y, Z), true)", answers("_0 ; _1 ; _1"))
        self.check("", "catch((X = 1, throw(g(X))), g(Y), true)", answers("_0 ; 1"))
        self.check("", "catch(throw(X = 1), G, G)", answers("_0 ; 1 = 1"))

    def test_bindings_are_undone(self):
        self.check("p(X) :- X = 1, throw(oops).", "catch(p(X), E, true)", answers("_0 ; oops"))
        self.check("p(1). p(2).", "p(X), catch((X = 2, throw(E)), E, true) ; X = 7", answers(
            "2 ; error(instantiation_error,/(throw,1))", "7 ; _0"))

    def test_nested_catches(self):
        self.check("", "catch(catch(throw(a), b, true), X, true)", answers("a"))
        self.check("", "catch(catch(throw(a), X, true), Y, true)", answers("a ; _0"))
        self.check("", "catch(catch(throw(a), X, throw(b)), Y, true)", answers("_0 ; b"))
        self.check("", "catch(catch(throw(a), a, throw(b)), b, X = c)", answers("c"))
        self.check("", "catch((catch(true, X, X = 1), throw(c)), Y, true)", answers("_0 ; c"))
        self.check("", "catch((catch(fail, a, true) ; throw(a)), a, X = 1)", answers("1"))
        self.check("", "catch(catch(catch(throw(x), y, true), z, true), W, true)", answers("x"))
        self.check("", "catch(throw(a), a, throw(b))", error("b"))

    def test_the_recovery(self):
        self.check("p(1). p(2).", "catch(throw(a), X, p(Y))", answers("a ; 1", "a ; 2"))
        self.check("", "catch(throw(foo), X, X)", error("error(existence_error(procedure, '/'(foo, 0)), '/'(foo, 0))"))
        self.check("", "catch(throw(true), X, X)", answers("true"))
        self.check("", "catch(throw(3), X, X)", error("error(type_error(callable, 3), '/'(call, 1))"))
        self.check("", "catch(throw(a), X, (Y = X ; Y = b))", answers("a ; a", "a ; b"))
        self.check("", "catch(throw(a), a, Y)", error("error(instantiation_error, '/'(call, 1))"))
        self.check("", "catch(throw(a), X, fail)", [END])
        self.check("", "catch(throw(a), X, true), Y = X", answers("a ; a"))

    def test_after_the_end_of_the_goal(self):
        self.check("p(1). p(2).", "catch(p(X), E, true), throw(x)", error("x"))
        self.check("p(1). p(2).", "catch((catch(p(X), E, true), throw(x)), x, true)", answers("_0 ; _1"))

    def test_backtracking_into_a_catch(self):
        self.check("p(1). p(2).", "catch(p(X), E, true)", answers("1 ; _0", "2 ; _0"))
        self.check("p(1). p(2). p(X) :- throw(X).", "catch(p(X), E, E = 3)", answers("1 ; _0", "2 ; _0"))
        self.check("p(1). p(X) :- throw(a).", "catch(p(X), E, true)", answers("1 ; _0", "_0 ; a"))
        self.check("p(1). p(2).", "catch(p(X), E, true), X = 2", answers("2 ; _0"))

    def test_errors_of_goals(self):
        self.check("", "foo(a)", error("error(existence_error(procedure, '/'(foo, 1)), '/'(foo, 1))"))
        self.check("", "X is a", error("error(type_error(evaluable, '/'(a, 0)), '/'(is, 2))"))
        self.check("", "catch(X is 1 // 0, error(E, C), true)",
                   answers("_0 ; evaluation_error(zero_divisor) ; /(is,2)"))
        self.check("", "functor(X, Y, 3)", error("error(instantiation_error, '/'(functor, 3))"))
        self.check("p :- q. q :- r.", "catch(p, error(existence_error(A, B), B), true)", answers("procedure ; /(r,0)"))
        self.check("", "true, (fail ; 1 < a)", error("error(type_error(evaluable, '/'(a, 0)), '/'(<, 2))"))

    def test_the_depth_after_an_error(self):
        search = Search(read_program("p(1). p(2)."), read("p(X), catch((p(Y), throw(a)), b, true)"))
        search.run(100)
        self.assertEqual(search.depth(), 1)


class Limits(Searching):

    def test_large_queries(self):
        self.check(Program([f("s", v(0))], []), sized(200), answers(""))
        for query in (sized(201), sized(1000), left_chain("=", 300, a("b"))):
            search = Search(Program([], []), query)
            self.assertIs(search.ended(), True)
            self.assertEqual(search.run(10), [LIMIT])
            self.assertEqual(search.depth(), 0)
        # The goal form counts.
        goals = (("f", ",", 2),) * 66 + v(0) * 67
        self.assertEqual(len(goal_form(goals)), 200)
        self.assertEqual(Search(Program([], []), goals).run(0), [])
        self.assertEqual(Search(Program([], []), goals[:1] + goals + v(0)).run(0), [LIMIT])

    def test_too_large_in_a_unification(self):
        wide = [f("q", v(0), v(0), chain("s", 66, v(2)))]
        self.check(Program(wide, []), f("q", v(0), v(0), v(0)), [LIMIT])
        self.check(Program([f("q", v(0), v(0), chain("s", 65, v(2)))], []), f("q", v(0), v(0), v(0)),
                   [("answer", shown(chain("s", 65, v(0)))), END])
        for name in ("=", "\\="):
            query = f(name, f("q", v(0), v(0), v(0)), f("q", v(1), v(1), chain("s", 66, v(2))))
            self.check(Program([], []), query, [LIMIT])

    def outcome(self, program, query):
        """The last event of a search."""
        return told(Search(Program(program, []), read(query)).run(1000))[-1]

    def test_goals_of_200_and_201_nodes(self):
        for count, goal, size in ((99, "q(f(Y, Z))", 200), (99, "q(f(Y, Z), a)", 201), (100, "q(f(Y, Z))", 202)):
            program = [f("p", sized(count)), f("q", v(0)), f("q", v(0), v(1))]
            self.assertEqual(self.outcome(program, f"p(Y), p(Z), {goal}"), END if size <= 200 else LIMIT)
            # A conjunction is a goal, too.
            self.assertEqual(self.outcome(program, f"p(Y), p(Z), true, {goal}"), LIMIT)

    def test_answers_of_200_and_201_nodes(self):
        for count, term, size in ((99, "f(Y, Z, a)", 200), (100, "f(Y, Z)", 201)):
            program = [f("p", sized(count))]
            self.assertEqual(self.outcome(program, f"X = {term}, p(Y), p(Z)"), END if size <= 200 else LIMIT)
            self.assertEqual(self.outcome(program, f"X = {term}, p(Y), fail"), END)
            # The list that a step leaves is looked at, also if it is left at once.
            self.assertEqual(self.outcome(program, f"X = {term}, p(Y), p(Z), fail"), END if size <= 200 else LIMIT)

    def test_the_body_of_a_clause(self):
        body = (("f", ",", 2),) * 66 + v(0) * 67
        self.check(Program([f(":-", f("p", v(0)), body)], []), f("p", a("true")), answers(""))
        body = (("f", ",", 2),) * 67 + v(0) * 68
        self.check(Program([f(":-", f("p", v(0)), body)], []), f("p", a("true")), [LIMIT])

    def test_thrown_terms(self):
        for count, size in ((99, 199), (99, 200), (100, 201)):
            program = [f("p", sized(count))]
            extra = ", a" if size == 200 else ""
            found = self.outcome(program, f"catch((p(Y), p(Z), throw(f(Y, Z{extra}))), E, true)")
            # The goal of throw has one node more than its argument.
            self.assertEqual(found, END if size <= 199 else LIMIT)
        # The term for an error has 6 nodes more than what it is about.
        for count in (193, 194, 195):
            query = f("arg", sized(count), a("b"), v(0))
            error_then = f("error", f("type_error", a("integer"), sized(count)), f("/", a("arg"), i(3)))
            self.assertEqual(Search(Program([], []), query).run(10),
                             [("error", error_then) if len(error_then) <= 200 else LIMIT])

    def test_the_list_of_findall(self):
        # The list has three nodes more than its two elements.
        for one, other, fits in ((98, 98, True), (98, 99, True), (99, 99, False)):
            program = [f("p", sized(one)), f("p", sized(other))]
            for query in ("findall(X, p(X), L)", "findall(X, p(X), a)", "findall(X, p(X), [A, B])"):
                self.assertEqual(self.outcome(program, query), END if fits else LIMIT)

    def test_the_terms_that_findall_finds(self):
        for count, extra, fits in ((98, "", True), (99, "", False), (98, ", a", True), (100, "", False)):
            # The list has two nodes more than f(Y, Z).
            program = [f("p", sized(count))]
            self.assertEqual(self.outcome(program, f"findall(f(Y, Z{extra}), (p(Y), p(Z)), L)"), END if fits else LIMIT)
        for count, fits in ((99, True), (100, False)):
            self.assertEqual(self.outcome([f("p", sized(count))], "findall(f(Y, Z), (p(Y), p(Z), fail), L)"),
                             END if fits else LIMIT)

    def test_the_goal_of_a_recovery(self):
        variables_then = (("f", ",", 2),) * 67 + v(0) * 68
        query = f("catch", f("throw", a("b")), a("b"), variables_then)
        self.assertLessEqual(len(query), 200)
        self.assertEqual(Search(Program([], []), query).run(10), [LIMIT])

    def test_events_before_the_limit_stay(self):
        program = Program([f("p", sized(199))], [])
        query = f(",", f("write", a("a")), f(",", f("p", v(0)), f("=", v(1), f("f", v(0), v(0)))))
        events = Search(program, query).run(100)
        self.assertEqual(events, [("write", "a"), LIMIT])

    def test_nothing_changes_after_the_end(self):
        program = Program([f("p", sized(199)), f("p", a("b"))], [])
        for query in (f(",", f("p", v(0)), f("=", v(1), f("f", v(0), v(0)))), a("true"), a("foo"), sized(300)):
            search = Search(program, query)
            events, depth, clauses_then = search.run(100), search.depth(), search.program().clauses()
            self.assertIs(search.ended(), True)
            for _ in range(3):
                search.step()
                self.assertEqual(search.run(5), events)
            self.assertEqual((search.depth(), search.program().clauses()), (depth, clauses_then))

    def test_a_search_that_grows(self):
        self.check("p(X) :- p(s(X)).", "p(z)", [LIMIT])
        self.check("p(X) :- p(f(X, X)).", "p(z)", [LIMIT])
        self.check("p(X) :- q(X, Y), p(Y). q(X, f(X, X)).", "p(z)", [LIMIT])


class BuiltIns(Searching):

    def test_in_a_search(self):
        self.check("", "X = f(Y), Y = a", answers("f(a) ; a"))
        self.check("", "X \\= a ; X = b", answers("b"))
        self.check("", "X == Y ; X \\== Y", answers("_0 ; _1"))
        self.check("", "compare(O, a, b), functor(T, O, 1)", answers("< ; <(_0)"))
        self.check("", "functor(T, f, 2), arg(1, T, X), X = a", answers("f(a,_0) ; a"))
        self.check("", "T =.. [f, X, Y], X = Y", answers("f(_0,_0) ; _0 ; _0"))
        self.check("", "copy_term(f(X, Y, X), T), X = 1", answers("1 ; _0 ; f(_1,_2,_1)"))
        self.check("", "sort([c, b, a, b], L)", answers("[a,b,c]"))
        self.check("", "X is 2 + 3, X < 6, X =< 5, X =:= 5", answers("5"))
        self.check("", "var(X), X = 1, nonvar(X), integer(X)", answers("1"))
        self.check("", "X @< a", answers("_0"))
        self.check("", "X @< Y", error("error(instantiation_error, '/'(@<, 2))"))

    def test_new_variables_are_different(self):
        self.check("", "functor(A, f, 1), functor(B, f, 1), copy_term(A, C)", answers("f(_0) ; f(_1) ; f(_2)"))
        self.check("p(X, Y).", "functor(A, f, 2), p(C, D), copy_term(A, B)",
                   answers("f(_0,_1) ; _2 ; _3 ; f(_4,_5)"))

    def test_write_and_nl(self):
        self.check("", "write(f(X, Y, X)), nl, write('A b')", [
            ("write", "f(_0,_1,_0)"), ("write", "\n"), ("write", "'A b'"), ("answer", "_0", "_1"), END])
        self.check("", "write((a :- b, \\+ c))", [("write", "a :- b, \\+ c"), ("answer",), END])
        self.check(":- op(700, xfx, ===). p(a === b).", "p(X), write(X)", [
            ("write", "===(a,b)"), ("answer", "===(a,b)"), END])
        self.written("p(1). p(2).", "p(X), write(X), nl, fail", "1\n2\n", END)

    def test_changes_while_a_predicate_is_tried(self):
        program = ":- dynamic(p, 1). p(1). p(2). "
        self.check(program, "p(X), assertz(p(3))", answers("1", "2"))
        self.check(program, "p(X), asserta(p(0)), fail ; p(X)", answers("0", "0", "1", "2"))
        self.check(program, "p(X), retract(p(2))", [("answer", "1"), END])
        self.check(program, "p(X), (retract(p(2)) ; true)", answers("1", "1", "2"))
        self.check(program, "retract(p(1)), p(X)", answers("2"))
        self.check(program, "retract(p(X)), retract(p(Y)), p(Z)", [END])
        self.check(program, "retract(p(X)), retract(p(Y)), \\+ p(Z)", answers("1 ; 2 ; _0"))

    def test_retract_leaves_no_choice_point(self):
        program = ":- dynamic(p, 1). p(1). p(2). p(3)."
        search = self.check(program, "retract(p(X))", answers("1"))
        self.assertEqual([shown(head) for head, _ in search.program().clauses()], ["p(2)", "p(3)"])
        search = self.check(program, "retract(p(X)), X = 2", [END])
        self.assertEqual([shown(head) for head, _ in search.program().clauses()], ["p(2)", "p(3)"])

    def test_changes_stay_on_backtracking(self):
        program = ":- dynamic(p, 1). p(1)."
        self.check(program, "assertz(p(2)), fail ; p(X)", answers("1", "2"))
        self.check(program, "catch((assertz(p(2)), throw(a)), a, true), p(X)", answers("1", "2"))

    def test_added_clauses(self):
        program = ":- dynamic(p, 1). :- dynamic(q, 2)."
        self.check(program, "assertz((q(X, Y) :- p(X), p(Y))), assertz(p(1)), assertz(p(2)), q(A, B)",
                   answers("_0 ; _1 ; 1 ; 1", "_0 ; _1 ; 1 ; 2", "_0 ; _1 ; 2 ; 1", "_0 ; _1 ; 2 ; 2"))
        self.check(program, "X = 1, assertz(p(X)), p(Y)", answers("1 ; 1"))
        self.check(program, "assertz(p(X)), X = 1, p(Y)", answers("1 ; _0"))
        self.check(program, "assertz((p(X) :- X)), p(Y = 2)", answers("_0 ; 2"))
        self.check(program, "assertz(r)", error(
            "error(permission_error(modify, static_procedure, '/'(r, 0)), '/'(assertz, 1))"))
        self.check(program, "retract(r)", error(
            "error(permission_error(access, private_procedure, '/'(r, 0)), '/'(retract, 1))"))

    def test_200_clauses(self):
        program = Program(facts(199), [("q", 0)])
        self.check(program, "assertz(q), asserta(q)", error("error(representation_error(clauses), '/'(asserta, 1))"))

    def test_tabled(self):
        program = "e(a, b). e(b, c). e(c, a). q(X, Y) :- q(X, Z), e(Z, Y). q(X, Y) :- e(X, Y). p(X, X). p(X, Y)."
        self.check(program, "tabled(q(a, X))", answers("a", "b", "c"))
        self.check(program, "tabled(q(a, X)), e(X, Y)", answers("a ; b", "b ; c", "c ; a"))
        self.check(program, "tabled(q(a, X)), !", answers("a"))
        self.check(program, "tabled(q(a, d))", [END])
        self.check(program, "tabled(p(A, B)), tabled(p(C, A))",
                   answers("_0 ; _0 ; _0", "_0 ; _0 ; _1", "_0 ; _1 ; _0", "_0 ; _1 ; _2"))
        self.check(program, "tabled(X)", error("error(instantiation_error, '/'(tabled, 1))"))
        self.check(program, "tabled(none)", error("error(existence_error(procedure, '/'(none, 0)), '/'(tabled, 1))"))
        self.check(program, "tabled((e(X, Y), e(Y, Z)))", error(
            "error(type_error(definite, '/'(',', 2)), '/'(tabled, 1))"))

    def test_the_steps_of_tabled(self):
        search = Search(read_program("p(1). p(2)."), read("tabled(p(X))"))
        search.step()
        self.assertEqual((search.run(0), search.depth()), ([], 1))
        self.assertEqual(search.run(2), [("answer", [i(1)])])
        self.assertEqual(search.depth(), 0)
        self.assertEqual(search.run(2), [("answer", [i(1)]), ("answer", [i(2)]), END])

    def test_full_tables(self):
        program = "n(z). n(s(X)) :- n(X). k(z). k(s(X)) :- k(X)."
        self.check(program, "tabled(n(X))", [LIMIT])
        query = f(",", f("write", a("a")), f("tabled", f("n", chain("s", 40, a("z")))))
        self.check(program, query, [("write", "a"), LIMIT])
        self.check(program, f("tabled", f("n", chain("s", 39, a("z")))), answers(""))

    def test_tabled_follows_changes(self):
        program = ":- dynamic(p, 1). p(1). q(X) :- p(X)."
        self.check(program, "tabled(q(X)), assertz(p(2))", answers("1"))
        self.check(program, "assertz(p(2)), tabled(q(X))", answers("1", "2"))
        self.check(program, "retract(p(1)), tabled(q(X))", [END])

    def test_solve(self):
        self.check("", "X = 3, solve([Y, X], [Y in 1 .. 5, Y < X])", answers("3 ; 1", "3 ; 2"))
        self.check("", "solve([X, Y], [X in 1 .. 3, Y in 1 .. 3, Z in 1 .. 9, X < Y, Z =:= X * Y]), write(X)", [
            ("write", "1"), ("answer", "1", "2", "_0"), ("write", "1"), ("answer", "1", "3", "_0"),
            ("write", "2"), ("answer", "2", "3", "_0"), END])
        self.check("", "solve([X], [X in 1 .. 3]), X \\= 1, !", answers("2"))
        self.check("", "solve([], [X in 5 .. 4])", [END])
        self.check("", "solve([X], [X in 1 .. 3, foo])", error("error(type_error(constraint, foo), '/'(solve, 2))"))
        self.check("", "solve([X, 2], [X in 1 .. 2]), 2 = X", answers("2"))

    def test_too_many_solutions(self):
        self.check("", "solve([X, Y], [X in 1 .. 50, Y in 1 .. 5])", [LIMIT])
        search = Search(Program([], []), read("solve([X, Y], [X in 1 .. 50, Y in 1 .. 4])"))
        self.assertEqual(len(search.run(5000)), 201)
        self.check("", "write(a), solve([], [X in 1 .. 50, Y in 1 .. 5])", [("write", "a"), LIMIT])

    def test_the_steps_of_solve(self):
        search = Search(Program([], []), read("solve([X], [X in 1 .. 2])"))
        self.assertEqual(search.run(1), [])
        self.assertEqual(search.depth(), 1)
        self.assertEqual(search.run(1), [])
        self.assertEqual(search.run(1), [("answer", [i(1)])])
        self.assertEqual(search.depth(), 0)


class AgainstTheWords(unittest.TestCase):

    def compare(self, program, query, steps):
        one, other = Search(program, query), WordSearch(program, query)
        for _ in range(steps):
            self.assertEqual((one.run(0), one.depth(), one.ended()), (other.events, len(other.choices), other.over))
            if other.over:
                break
            one.step()
            other.step()
        self.assertEqual(one.program().clauses(), other.program.clauses())
        return len(other.events)

    def random_goal(self, source, depth):
        def argument(inner=1):
            kind = source.randrange(8 if inner else 6)
            if kind < 3:
                return v(source.randrange(4))
            return f("s", argument(0)) if kind > 5 else [a("x"), a("y"), i(1)][kind - 3]

        kind = source.randrange(24 if depth else 12)
        if kind < 5:
            return f(source.choice("pqr"), argument())
        if kind < 7:
            return f("=", argument(), argument())
        if kind < 12:
            return [a("!"), a("true"), a("fail"), f("write", argument()), v(source.randrange(4))][kind - 7]
        left = self.random_goal(source, depth - 1)
        if kind == 12:
            return f("\\+", left)
        if kind == 13:
            return f("call", left)
        if kind == 14:
            return f("findall", argument(), left, argument())
        if kind == 15:
            return f("throw", argument())
        if kind == 16:
            return f(source.choice(("assertz", "asserta", "retract")), f(source.choice("pq"), argument()))
        right = self.random_goal(source, depth - 1)
        if kind == 17:
            return f("catch", left, argument(), right)
        if kind == 18:
            return f(";", f("->", left, right), self.random_goal(source, depth - 1))
        return f(source.choice((",", ",", ";", "->")), left, right)

    def random_program(self, source):
        heads = [f(source.choice("pqr"), source.choice((v(0), a("x"), a("y"), f("s", v(0)), i(1)))) for _ in range(6)]
        return Program([f(":-", head, self.random_goal(source, source.randrange(3))) for head in heads],
                       [("p", 1)] if source.random() < 0.5 else [("p", 1), ("q", 1), ("r", 1)])

    def test_random_programs(self):
        source = seeded(22)
        events = 0
        for _ in range(700):
            events += self.compare(self.random_program(source), self.random_goal(source, 3), 150)
        self.assertGreater(events, 1000)

    def test_programs_that_grow(self):
        for text, query in (
                ("app([], Y, Y). app([H | X], Y, [H | Z]) :- app(X, Y, Z). r([], []). "
                 "r([H | T], R) :- r(T, S), app(S, [H], R).", "r([1, 2, 3, 4, 5, 6, 7], X)"),
                ("p(X, Y) :- q(X, Z), p(Z, Y). p(X, X). q(X, f(X, Y)). q(X, g(Y, Y)).", "p(A, B)"),
                ("p(X) :- q(X, Y), catch(p(Y), E, (write(E), throw(E))). q(X, s(X, Y)).", "p(A)"),
                ("l(0, []). l(N, [X | T]) :- N = s(M), l(M, T), X = N.", "l(s(s(s(0))), L)")):
            self.compare(read_program(text), read(query), 400)


if __name__ == "__main__":
    unittest.main()
