"""Points 66 and 68: at_call and view of a machine."""

import unittest

from helper import (
    BUILT_IN, CONTROL, a, f, i, normal_goals, random_prolog_goal, random_prolog_program, read, renumbered, seeded, shown,
    v)
from hornbook.machine import Machine
from hornbook.program import Program, read_program
from hornbook.terms import parts
from test_search import WordSearch

NO_PREDICATES = CONTROL + BUILT_IN


def search_view(search):
    """The items of a search in the form of point 68."""
    found = []
    for item in search.list:
        if item[0] == "goal":
            found += [("goal", [goal]) for goal in normal_goals(item[1])]
        elif item[0] in ("commit", "exit"):
            found.append((item[0], []))
        else:
            found.append((item[0], [item[2]] if item[0] == "found" else item[1]))
    terms = renumbered([term for _, given in found for term in given])
    view = []
    for word, given in found:
        mine, terms = terms[:len(given)], terms[len(given):]
        view.append((word, mine) if word == "answer" else (word, *mine))
    return view


def search_views(program, query, steps):
    """The views of a search at its calls of predicates, and whether it has ended with the limit."""
    search, found = WordSearch(program, query), []
    for _ in range(steps):
        if search.over:
            break
        item = search.list[0]
        if item[0] == "goal" and item[1][0][1:] not in NO_PREDICATES:
            found.append((item[1][0][1:], search_view(search)))
        search.step()
    return found, ("limit",) in search.events


def machine_views(program, query, count, **more):
    """The first views of a machine at its calls."""
    machine, found = Machine(program, query, **more), []
    left = 200000
    while len(found) < count and not machine.ended() and left:
        if machine.at_call() is not None:
            found.append((machine.at_call(), machine.view()))
        machine.step()
        left -= 1
    return found


def told(view):
    """A view as text."""
    words = []
    for item in view:
        if item[0] == "goal":
            words.append(text_of(item[1]))
        elif item[0] == "answer":
            words.append("answer " + " ; ".join(text_of(term) for term in item[1]))
        else:
            words.append(" ".join([item[0], *[text_of(term) for term in item[1:]]]))
    return words


def text_of(term):
    """The text of a term with the numbers that its variables have."""
    named = tuple(("f", f"_{node[1]}", 0) if isinstance(node, tuple) and node[0] == "v" else node for node in term)
    text = shown(named)
    for node in term:
        if isinstance(node, tuple) and node[0] == "v":
            text = text.replace(f"'_{node[1]}'", f"_{node[1]}")
    return text


class Views(unittest.TestCase):

    def views(self, program, query, **more):
        return [told(view) for _, view in machine_views(read_program(program), read(query), 50, **more)]

    def test_a_query(self):
        self.assertEqual(self.views("p(1).", "p(X)"), [["p(_0)", "answer _0"]])
        self.assertEqual(self.views("p(1).", "p(X), q(X, Y) ; true")[0], ["p(_0)", "q(_0,_1)", "answer _0 ; _1"])
        self.assertEqual(self.views("p.", "p"), [["p", "answer "]])
        machine = Machine(read_program("p(1)."), f("p", v(9), v(4)))
        self.assertEqual(machine.at_call(), None)
        machine.run(4)
        self.assertEqual(machine.at_call(), ("p", 2))
        self.assertEqual(machine.view(), [("goal", f("p", v(0), v(1))), ("answer", [v(1), v(0)])])

    def test_goals_behind_a_call(self):
        program = "p(X) :- q(X, Y), true, (r(Y), !), r(X). q(1, 2). r(2). r(1)."
        self.assertEqual(self.views(program, "p(A)"), [
            ["p(_0)", "answer _0"], ["q(_0,_1)", "r(_1)", "!", "r(_0)", "answer _0"],
            ["r(2)", "!", "r(1)", "answer 1"], ["r(1)", "answer 1"]])

    def test_last_calls(self):
        program = "p(X) :- q(X), r(X). q(X) :- s(X). r(X) :- s(X). s(1)."
        self.assertEqual(self.views(program, "p(A), s(A)"), [
            ["p(_0)", "s(_0)", "answer _0"], ["q(_0)", "r(_0)", "s(_0)", "answer _0"],
            ["s(_0)", "r(_0)", "s(_0)", "answer _0"],
            ["r(1)", "s(1)", "answer 1"], ["s(1)", "s(1)", "answer 1"], ["s(1)", "answer 1"]])

    def test_the_form_of_goals(self):
        program = "p(X) :- q, ((X, true), 3 ; (a -> b, (c, true))), \\+ (true, d), (X -> true ; true, e). q :- fail."
        self.assertEqual(self.views(program, "p(A)")[1], [
            "q", "call(_0), call(3) ; a -> b, c ; fail", "\\+ d", "call(_0) -> true ; e", "answer _0"])

    def test_commit_items(self):
        program = "p(X) :- (q(X), r(X) -> s(X) ; t(X)), u(X). q(1). r(1). s(1). t(1). u(1)."
        self.assertEqual(self.views(program, "p(A)")[1:], [
            ["q(_0)", "r(_0)", "commit", "s(_0)", "u(_0)", "answer _0"], ["r(1)", "commit", "s(1)", "u(1)", "answer 1"],
            ["s(1)", "u(1)", "answer 1"], ["u(1)", "answer 1"]])
        program = "p(X) :- \\+ (q(X), r(X)), s(X). q(1). r(2). s(3)."
        self.assertEqual(self.views(program, "p(A)")[1:], [
            ["q(_0)", "r(_0)", "commit", "fail", "s(_0)", "answer _0"], ["r(1)", "commit", "fail", "s(1)", "answer 1"],
            ["s(_0)", "answer _0"]])
        program = "p(X) :- (\\+ (q(X) -> r(X) ; t) -> s(X)), t. q(1). r(2). s(3). t."
        self.assertEqual(self.views(program, "p(A)")[1:3], [
            ["q(_0)", "commit", "r(_0)", "commit", "fail", "commit", "s(_0)", "t", "answer _0"],
            ["r(1)", "commit", "fail", "commit", "s(1)", "t", "answer 1"]])

    def test_exit_items(self):
        program = "p(X) :- catch((q(X), r(X)), E, s(E)), t(X). q(1). r(1). t(1). s(1)."
        self.assertEqual(self.views(program, "p(A)")[1:], [
            ["q(_0)", "r(_0)", "exit", "t(_0)", "answer _0"], ["r(1)", "exit", "t(1)", "answer 1"],
            ["t(1)", "answer 1"]])
        self.assertEqual(self.views("q(1). r.", "catch(catch(q(X), _, true), _, true), r"), [
            ["q(_0)", "exit", "exit", "r", "answer _0 ; _1 ; _2"], ["r", "answer 1 ; _0 ; _1"]])
        self.assertEqual(self.views("q(1).", "catch(throw(f(Y)), f(X), q(X))"), [["q(_0)", "answer _1 ; _0"]])

    def test_found_items(self):
        program = "p(X) :- findall(Y-Z, (q(Y), q(Z)), X), r(X). q(1). r(A)."
        self.assertEqual(self.views(program, "p(A)")[1:], [
            ["q(_0)", "q(_1)", "found _0 - _1", "r(_2)", "answer _2"], ["q(_0)", "found 1 - _0", "r(_1)", "answer _1"],
            ["r([1 - 1])", "answer [1 - 1]"]])

    def test_items_of_all_kinds(self):
        program = "p(X) :- catch(findall(Y, (\\+ q(Y), true ; r(Y)), X), E, true), t. q(1). r(2). t."
        self.assertEqual(self.views(program, "p(A)")[1:3], [
            ["q(_0)", "commit", "fail", "found _0", "exit", "t", "answer _1"], ["r(_0)", "found _0", "exit", "t",
            "answer _1"]])

    def test_what_is_never_reached_belongs_to_the_items(self):
        program = "p(X, Y) :- q(X), fail, r(X, Y), ! ; (q(Y), fail -> s(X, Z) ; s(Y, Z)). q(1) :- t. t. s(A, B)."
        self.assertEqual(self.views(program, "p(A, B)"), [
            ["p(_0,_1)", "answer _0 ; _1"], ["q(_0)", "fail", "r(_0,_1)", "!", "answer _0 ; _1"],
            ["t", "fail", "r(1,_0)", "!", "answer 1 ; _0"], ["q(_0)", "fail", "commit", "s(_1,_2)", "answer _1 ; _0"],
            ["t", "fail", "commit", "s(_0,_1)", "answer _0 ; 1"], ["s(_0,_1)", "answer _2 ; _0"]])

    def test_call(self):
        self.assertEqual(self.views("q(1). r.", "call((q(X), (r, true), !)), r"), [
            ["q(_0)", "r", "!", "r", "answer _0"], ["r", "!", "r", "answer 1"], ["r", "answer 1"]])
        self.assertEqual(self.views("q(1). r.", "call(q, X), r")[0], ["q(_0)", "r", "answer _0"])
        self.assertEqual(self.views("q(1). r.", "G = q(X), G, r")[0], ["q(_0)", "r", "answer q(_0) ; _0"])

    def test_unwritten_slots_of_different_frames(self):
        program = "p(X) :- q, r(Y, Z), r(Z, Y). q :- s, r(A, B). s :- t, r(C, C). t. r(1, 2)."
        self.assertEqual(self.views(program, "p(X)")[3], [
            "t", "r(_0,_0)", "r(_1,_2)", "r(_3,_4)", "r(_4,_3)", "answer _5"])

    def test_slots_count_as_not_written_behind_backtracking(self):
        program = "p :- (q(X), X = f(Y), r, fail ; r, s(X)). q(A). r. s(A)."
        self.assertEqual(self.views(program, "p")[1:], [
            ["q(_0)", "_0 = f(_1)", "r", "fail", "answer "], ["r", "fail", "answer "], ["r", "s(_0)", "answer "],
            ["s(_0)", "answer "]])
        program = "p :- two(A), q(X, A), r(X), fail. p. two(1). two(2). q(f(B), 1). q(C, 2) :- t(C). t(C). r(C)."
        self.assertEqual(self.views(program, "p")[-2:], [
            ["t(_0)", "r(_0)", "fail", "answer "], ["r(_0)", "fail", "answer "]])

    def test_results_are_apart(self):
        machine = Machine(read_program("p(X) :- q(X), r. q(1). r."), read("p(A)"))
        while not machine.ended():
            if machine.at_call() is not None:
                before = machine.view()
                self.assertIs(type(before), list)
                changed = machine.view()
                changed[-1][1].append("more")
                changed.append("more")
                self.assertEqual(machine.view(), before)
            machine.step()
        self.assertEqual(machine.run(0), [("answer", [i(1)]), ("end",)])


class AtCall(unittest.TestCase):

    def test_large_terms_that_no_item_shows(self):
        """The search goes on beside a term of any size that it does not need any more."""
        for count in (3, 17, 28):
            goals = ", ".join(f"X{number} = f(X{number + 1}, X{number + 1})" for number in range(count))
            program = read_program(f"p(Y) :- {goals}, X{count} = Y, q(X{count}), r. q(1) :- r, r. r.")
            expected, limited = search_views(program, read("p(Y)"), 1000)
            self.assertFalse(limited)
            self.assertEqual(len(expected), 5)
            for collect_at in ((), tuple(range(2000)), tuple(range(1, 2000, 5))):
                self.assertEqual(machine_views(program, read("p(Y)"), 6, collect_at=collect_at), expected)
                machine = Machine(program, read("p(Y)"), collect_at=collect_at)
                self.assertEqual(machine.run(2000), [("answer", [i(1)]), ("end",)])

    def test_terms_that_are_too_large(self):
        """The search has ended long before."""
        machine = Machine(read_program("p(X) :- p(f(X, X))."), read("p(a)"))
        for _ in range(300):
            machine.step()
            if machine.at_call() is not None and machine.view() is not None:
                self.assertLess(len(machine.view()[0][1]), 100002)
        self.assertEqual(machine.run(0), [])

    def test_behind_every_instruction(self):
        program = read_program("p(X) :- q(X), X = 1, !, catch(r, E, true), call(q(X)), findall(X, r, L), "
            "\\+ throw(a). q(1). r.")
        machine, calls, others = Machine(program, read("p(A)")), [], 0
        while not machine.ended():
            call = machine.at_call()
            if call is None:
                others += 1
                self.assertIsNone(machine.view())
            else:
                calls.append(call)
                self.assertIs(type(call), tuple)
                self.assertEqual(machine.view()[0][1][0][1:], call)
            machine.step()
        self.assertEqual(calls, [("p", 1), ("q", 1), ("r", 0), ("q", 1), ("r", 0)])
        self.assertGreater(others, 20)
        self.assertIsNone(machine.at_call())
        self.assertIsNone(machine.view())

    def test_predicates_that_do_not_exist(self):
        for query in ("none(X)", "catch(none(X), E, true)", "\\+ none(X)"):
            calls = machine_views(read_program(""), read(query), 5)
            self.assertEqual([call for call, _ in calls], [("none", 1)])

    def test_it_changes_nothing(self):
        source = seeded(681)
        for _ in range(30):
            found, dynamic = random_prolog_program(source)
            query = random_prolog_goal(source, 3)
            one, other = Machine(Program(found, dynamic), query), Machine(Program(found, dynamic), query)
            for _ in range(200):
                self.assertEqual(one.sizes(), other.sizes())
                one.view()
                one.at_call()
                one.step()
                other.step()
            self.assertEqual(one.run(0), other.run(0))


class Drawn(unittest.TestCase):

    def compare(self, program, query, steps, **more):
        expected, limited = search_views(program, query, steps)
        found = machine_views(program, query, len(expected), **more)
        self.assertEqual(found, expected[:len(found)])
        if not limited:
            self.assertEqual(len(found), len(expected))
        return len(found)

    def test_drawn_programs(self):
        source = seeded(68)
        views = 0
        for number in range(600):
            found, dynamic = random_prolog_program(source)
            plan = ((0,), (), (1, 0))[number % 3]
            views += self.compare(Program(found, dynamic), random_prolog_goal(source, 4), 60, plan=plan)
        self.assertGreater(views, 1000)

    def test_drawn_programs_that_run_longer(self):
        source = seeded(69)
        views = 0
        for _ in range(350):
            found, dynamic = random_prolog_program(source, calm=True)
            views += self.compare(Program(found, dynamic), random_prolog_goal(source, 4, calm=True), 120)
        self.assertGreater(views, 2000)

    def test_with_collections(self):
        source = seeded(70)
        views = 0
        for number in range(300):
            found, dynamic = random_prolog_program(source, calm=number % 4 > 0)
            collect_at = tuple(range(number % 3, 3000, 1 + number % 3))
            query = random_prolog_goal(source, 4, calm=number % 4 > 0)
            views += self.compare(Program(found, dynamic), query, 80, collect_at=collect_at)
        self.assertGreater(views, 1500)

    def test_what_is_never_reached_with_collections(self):
        """The items have also what no instruction will need."""
        for program, query in (
                ("p :- (c(X), d, fail, f(X) ; g, e(X)), g. c(k(A)). d :- g, g. g. e(B).", "p"),
                ("p :- a, c(X), d, fail, f(X). p. a :- b, g. b :- (g ; g), g. c(k(A)). d :- g, g. g.", "p"),
                ("p(X, Y) :- q(X, Y), fail, r(X, Y, Z), r(Z, Z, Y). q(f(A, B), g(B)) :- s(A), s(B). s(h(C)) :- t(C). "
                "t(1). t(D).",
                 "p(A, B)"),
                ("p(X) :- q(X), fail, r(X). q(Y) :- s(Z), s(Y), t, t. s(f(A, A)). t :- u, u. u.", "p(A)"),
                ("p(X) :- (q(X), fail, r(X) ; q(Y), r(Y), fail, r(X)). q(f(A)) :- r(A). q(2). r(Z) :- u(Z). "
                "u(g(C)) :- v, v. v.",
                 "p(A)"),
                ("p(X) :- q(X, Y), (r(Y) -> fail, s(X) ; fail, s(Y)). q(f(A), g(B, A)). r(g(1, C)) :- t. r(D) :- t. "
                "t :- u, u. u.",
                 "p(A), s(A)")):
            self.with_collections(program, query, 4)

    def with_collections(self, program, query, least):
        for collect_at in (tuple(range(2000)), tuple(range(0, 2000, 3)), tuple(range(5, 2000, 17))):
            self.assertGreater(self.compare(read_program(program), read(query), 200, collect_at=collect_at), least)

    def test_what_only_another_part_reaches_with_collections(self):
        """Behind a construct of which the present part fails, but not the other one."""
        for program, query in (
                ("p(X) :- (q ; r, fail), t(X). q :- fail. r :- u, u. u.", "p(B)"),
                ("p(X) :- (q -> r ; u, r, fail), t(X). q :- fail. r :- u, u. u.", "p(f(B))"),
                ("p(X) :- (q -> r ; r, u, fail), t(X). q :- fail. r :- u, u. u.", "p(f(B))"),
                ("p(X) :- (q ; r(Y), fail, s(Y)), t(X). q :- fail. r(f(A)) :- u(A), u(A). u(A).", "p(f(B))"),
                ("p(X) :- q(X, Y), (u ; r, fail ; r, fail), t(X), t(Y). q(f(A), A). r :- u, u. u.", "p(B)")):
            self.with_collections(program, query, 3)

    def test_what_is_never_reached_behind_backtracking(self):
        """A variable is shown unbound again, also where no cell is left of it."""
        for program, query in (
                ("p :- q(X), fail, r(X). q(X) :- findall(Y, u(X), L), w(L). u(f(Y)) :- k, z(Y), k. k. z(f(1)).", "p"),
                ("p :- q(X), fail, r(X). q(X) :- catch(u(X), E, w), w. u(f(Y)) :- k, k, throw(1). k. w :- k.", "p"),
                ("p :- q(X), fail, r(X). q(X) :- catch(u(X), E, w(E)), w(1). u(f(Y)) :- k(Y), k(Y), throw(Y). k(g(A)). "
                 "k(B). w(A) :- k(A), k(1).", "p"),
                ("p :- q(X, Y), fail, r(X, Y). q(X, Y) :- findall(A, u(X, Y), L), w(L). u(B, B) :- k, k. "
                 "u(1, A) :- k, k. u(A, g(A, B)) :- k, k. k. w(A) :- k.", "p"),
                ("p :- q(X, Y), fail, r(X, Y). q(X, Y) :- catch(s(X, Y), E, w), w. s(X, Y) :- catch(u(X), E, u(Y)), k. "
                 "u(f(A)) :- k, k, v(A), throw(A). v(1) :- k. k. w :- k, k.", "p"),
                ("p(Z) :- o(A), q(X, A), fail, r(X, A, Z). o(1). o(B). q(X, A) :- findall(1, u(X, A), L), w. "
                 "u(f(C), C) :- k, k. k. w :- k, k.", "p(Z)"),
                ("p :- q(X), fail, r(X). q(X) :- s(X, Y, Z). s(X, g(X), X) :- findall(1, u(X), L), w, w. "
                 "u(A) :- v(A), k, k. v(1). v(B). v(h(C, C)). k. w :- k, k.", "p")):
            self.with_collections(program, query, 6)

    def test_drawn_goals_that_are_never_reached(self):
        source = seeded(71)
        views = 0
        for number in range(300):
            found, dynamic = random_prolog_program(source, calm=True)
            for at, clause in enumerate(found):
                if clause[0] == ("f", ":-", 2) and source.random() < 0.6:
                    head, body = parts(clause)
                    behind = f(",", a("fail"), random_prolog_goal(source, 2, calm=True))
                    found[at] = f(":-", head, f(",", body, behind))
            collect_at = tuple(range(number % 3, 3000, 1 + number % 3))
            query = random_prolog_goal(source, 4, calm=True)
            views += self.compare(Program(found, dynamic), query, 80, collect_at=collect_at)
        self.assertGreater(views, 1500)


if __name__ == "__main__":
    unittest.main()
