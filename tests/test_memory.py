"""Points 81 to 85: collections of a machine."""

import unittest

from helper import f, i, random_prolog_goal, random_prolog_program, read, seeded, v
from hornbook.machine import Machine
from hornbook.program import Program, read_program
from test_machine import QUEENS, REVERSE, TEXTS

ALWAYS = tuple(range(30000))


class Collections(unittest.TestCase):

    def compare(self, program, query, source, most=600):
        """Machines that collect do the same as one that does not, with no more cells and entries of the trail."""
        sometimes = tuple(number for number in range(most) if source.random() < 0.15)
        plain = Machine(program, query)
        others = [Machine(program, query, collect_at=given) for given in (ALWAYS[:most], sometimes,
            tuple(range(0, most, 9)))]
        for _ in range(most):
            if plain.ended():
                break
            plain.step()
            cells, entries, frames, choices = plain.sizes()
            for machine in others:
                machine.step()
                sizes = machine.sizes()
                self.assertLessEqual(sizes[0], cells)
                self.assertLessEqual(sizes[1], entries)
                self.assertEqual(sizes[2:], (frames, choices))
                self.assertEqual(machine.at_call(), plain.at_call())
        for machine in others:
            self.assertEqual((machine.run(0), machine.ended()), (plain.run(0), plain.ended()))
            self.assertEqual(machine.program().clauses(), plain.program().clauses())
        return others[0].sizes()[0] < plain.sizes()[0]

    def test_texts(self):
        source = seeded(84)
        for program, query in TEXTS[::2] + [(REVERSE, "rev([a, b, c, d], X)"), (QUEENS, "queens(3, X)")]:
            with self.subTest(query):
                self.compare(read_program(program), read(query), source)

    def test_drawn_programs(self):
        source = seeded(82)
        smaller = 0
        for number in range(250):
            calm = number % 2 == 0
            found, dynamic = random_prolog_program(source, calm=calm)
            smaller += self.compare(Program(found, dynamic), random_prolog_goal(source, 4, calm=calm), source, 300)
        self.assertGreater(smaller, 20)

    def test_the_numbers_of_instructions(self):
        """A collection comes before the instruction with its number, counted from 0."""
        program, query = read_program("p :- q(f(a, b, c)), r, r. q(X). r."), read("p")
        plain = Machine(program, query)
        sizes = [plain.sizes()[0]]
        while not plain.ended():
            plain.step()
            sizes.append(plain.sizes()[0])
        grown = max(sizes)
        for number in range(len(sizes)):
            machine = Machine(program, query, collect_at=(number,))
            found = [machine.sizes()[0]]
            while not machine.ended():
                machine.step()
                found.append(machine.sizes()[0])
            self.assertEqual(len(found), len(sizes))
            self.assertEqual(found[:number + 1], sizes[:number + 1])
        self.assertGreaterEqual(grown, 4)

    def test_numbers_that_do_not_come_and_numbers_twice(self):
        program, query = read_program(REVERSE), read("rev([1, 2, 3], X)")
        expected = Machine(program, query).run(10 ** 4)
        for collect_at in ((-1, -5), (10 ** 20,), (5, 5, 5, 3), ()):
            machine = Machine(program, query, collect_at=collect_at)
            self.assertEqual(machine.run(10 ** 4), expected)

    def test_it_waits_while_a_compound_term_is_read_or_built(self):
        """At each place in front of, within and behind the instructions of compound terms."""
        program = read_program("p(f(A, g(B, c), [A, B|T]), X) :- q(h(X, T, i(A, j(B, 1)), Y), k(Y, Y)). q(A, "
            "A) :- r. q(A, B) :- r. r.")
        for text in ("p(X, Y)", "p(f(1, g(2, c), [1, 2]), x)", "p(f(X, Y, [Z, W, V]), V)", "p(f(X, g(f(X), Y), L), L)"):
            query = read(text)
            expected = Machine(program, query).run(10 ** 4)
            for number in range(70):
                for collect_at in ((number,), (number, number + 1), tuple(range(number, number + 6))):
                    self.assertEqual(Machine(program, query, collect_at=collect_at).run(10 ** 4), expected)


class Roots(unittest.TestCase):

    BIG = "[a, b, c, d, e, f, g, h]"

    def cells_at(self, program, query, name, **more):
        """The numbers of cells behind a collection at each call of a predicate."""
        machine, found = Machine(read_program(program), read(query), collect_at=ALWAYS, **more), []
        while not machine.ended():
            is_call = machine.at_call() is not None and machine.at_call()[0] == name
            if is_call:
                # The collection is made before the instruction, which itself adds no cell.
                machine.step()
                found.append(machine.sizes()[0])
            else:
                machine.step()
        return found

    def test_slots_below_the_number_of_the_call_alone(self):
        """Of a caller's frame only the slots that are needed behind its call count."""
        needed = f"p :- X = {self.BIG}, q, r(X). q :- here, s. r(X). s. here."
        dead = f"p :- X = {self.BIG}, r(X), q, s. q :- here, s. r(X). s. here."
        self.assertGreaterEqual(self.cells_at(needed, "p", "here")[0], 24)
        self.assertEqual(self.cells_at(dead, "p", "here"), [0])
        # Of the current frame all slots that were written count.
        current = f"p :- X = {self.BIG}, r(X), here, s. r(X). s. here."
        self.assertGreaterEqual(self.cells_at(current, "p", "here")[0], 24)

    def test_slots_of_a_frame_that_a_choice_point_remembers(self):
        program = f"p :- X = {self.BIG}, (q ; r(X)). q :- here, s. r(X). s. here."
        self.assertGreaterEqual(self.cells_at(program, "p", "here")[0], 24)
        program = f"p :- X = {self.BIG}, r(X), two, q, s. q :- here, s. r(X). s. here. two. two."
        self.assertGreaterEqual(self.cells_at(program, "p", "here")[0], 24)
        program = f"p :- X = {self.BIG}, r(X), two, !, q, s. q :- here, s. r(X). s. here. two. two."
        self.assertEqual(self.cells_at(program, "p", "here"), [0])

    def test_the_data_of_choice_points(self):
        for program, query in (
                (f"p :- q({self.BIG}). q(X) :- here, s. q(X) :- s. s. here.", "p"),
                (f"p :- catch(q, {self.BIG}, true). q :- here, s. s. here.", "p"),
                (f"p :- catch(q, _, r({self.BIG})). q :- here, s. s. here. r(X).", "p"),
                (f"p :- findall({self.BIG}, q, L). q :- here, s. s. here.", "p"),
                (f"p :- findall(x, q, {self.BIG}). q :- here, s. s. here.", "p")):
            with self.subTest(program):
                self.assertGreaterEqual(self.cells_at(program, query, "here")[0], 24)
        for program, query in (
                (f"p :- q({self.BIG}). q(X) :- s, here, s. q(none) :- s. s. here.", "p"),
                (f"p :- catch(r, {self.BIG}, true), !, q. q :- here, s. s. here. r.", "p"),
                (f"p :- findall({self.BIG}, s, [A]), A = B, q. q :- here, s. s. here.", "p")):
            with self.subTest(program):
                self.assertEqual(self.cells_at(program, query, "here")[0], 0)

    def test_registers(self):
        # The argument of the call that was executed last, before the first instruction of the code.
        program = f"p :- q({self.BIG}). q(X)."
        machine = Machine(read_program(program), read("p"), collect_at=ALWAYS)
        while machine.at_call() != ("q", 1):
            machine.step()
        machine.step()
        machine.step()
        self.assertGreaterEqual(machine.sizes()[0], 24)
        # A register that was written since then.
        program = "p(X) :- q(X, f(a, b, c, d, e, g, h, X)). q(A, B) :- here(A). here(A)."
        sizes = self.cells_at(program, "p(x)", "q")
        self.assertGreaterEqual(sizes[0], 9)
        # Others are gone with the next call.
        self.assertEqual(self.cells_at("p(X) :- q(f(a, b, c, d, e, g, h, X)), r. q(A). r :- here, s. here. s.",
            "p(x)", "here"), [0])

    def test_the_variables_of_the_query(self):
        self.assertEqual(self.cells_at("here. q :- here, s. s.", "q", "here"), [0])
        self.assertEqual(self.cells_at("here. q(X) :- here, s. s.", "q(X)", "here"), [1])
        self.assertGreaterEqual(self.cells_at(f"here. q({self.BIG}) :- here, s. s.", "q(X)", "here")[0], 25)

    def test_entries_of_the_trail(self):
        """An entry is removed with its cell."""
        program = "p :- (X = 1, Y = X, r(Y) -> q ; true), s. q :- here, s. r(A). s. here."
        machine, found = Machine(read_program(program), read("p"), collect_at=ALWAYS), []
        plain = Machine(read_program(program), read("p"))
        while not machine.ended():
            if machine.at_call() == ("here", 0):
                machine.step()
                plain.step()
                found.append((machine.sizes()[1], plain.sizes()[1]))
            else:
                machine.step()
                plain.step()
        self.assertEqual(found[0][0], 0)


class LastCalls(unittest.TestCase):

    PROGRAMS = [
        ("p(0). p(N) :- 0 < N, M is N - 1, p(M).", "p({})"),
        ("p(0, A, A). p(N, A, B) :- 0 < N, M is N - 1, C is A + N, p(M, C, B).", "p({}, 0, X)"),
        ("p(N, A, B) :- (N =< 0 -> A = B ; M is N - 1, C is A + N, p(M, C, B)).", "p({}, 0, X)"),
        ("p(N, A, B) :- (N =:= 0 -> A = B ; M is N - 1, A = f(Y, Z), p(M, f(Z, Y), B)).", "p({}, f(1, 2), X)"),
        ("p(N, A, B) :- (N =:= 0 -> A = B ; M is N - 1, A = f(Y, Z), p(M, f(Z, Y), B)). q. q.", "q, p({}, f(X, Y), Z)"),
        ("p(N, A, B) :- (N =:= 0 -> A = B ; M is N - 1, A = f(Y, Z), p(M, f(Z, Y), B)).",
        "(fail ; X = 1 ; X = 2), p({}, f(X, Y), Z)"),
        ("p(N) :- \\+ N < 0, \\+ N = 0, M is N - 1, !, p(M). p(0).", "p({})"),
        ("p(0). p(N) :- 0 < N, M is N - 1, call(p(M)).", "p({})"), ("p(0). p(N) :- 0 < N, M is N - 1, call(p, M).",
        "p({})"),
        ("p(0). p(N) :- 0 < N, findall(Y, (Y = 1 ; Y = 2), L), M is N - 1, p(M).", "p({})"),
        ("p(0). p(N) :- 0 < N, q(N, M), p(M). q(N, M) :- M is N - 1.", "p({})"),
        ("p(0, _). p(N, X) :- 0 < N, q(N, M, X, Y), p(M, Y). q(N, M, f(A, B), f(B, C)) :- M is N - 1.",
        "p({}, f(X, Y))"),
        ("p(0, _). p(N, X) :- 0 < N, Y = X, q(N, M), p(M, Y). q(N, M) :- M is N - 1. r. r.", "r, p({}, X)"),
        ("p(0, _). p(N, X) :- 0 < N, X = Y, q(N, M), p(M, Y). q(N, M) :- M is N - 1. r. r.", "r, p({}, g(X, h(Y, X)))"),
        ("p(0, _). p(N, X) :- 0 < N, copy_term(X, Y), M is N - 1, p(M, Y). r. r.", "r, p({}, g(X, h(Y, X)))"),
        ("p(0). p(N) :- 0 < N, (q(N, M) ; fail), !, p(M). q(N, M) :- M is N - 1. r. r.", "r, p({})"),
        ("p(0). p(N) :- 0 < N, (q(N, M), M = K -> true ; fail), p(K). q(N, M) :- M is N - 1. r. r.", "r, p({})"),
        (":- dynamic(c, 1). c(0). p(0). p(N) :- 0 < N, retract(c(X)), Y is X + 1, assertz(c(Y)), M is N - 1, p(M).",
        "p({})"),
        ("e(N) :- (N =:= 0 -> true ; M is N - 1, o(M)). o(N) :- (N =:= 0 -> fail ; M is N - 1, e(M)).",
        "\\+ \\+ e({}) ; true"),
    ]

    def greatest(self, program, query, **more):
        machine = Machine(read_program(program), read(query), collect_at=ALWAYS, **more)
        found = machine.sizes()
        while not machine.ended():
            machine.step()
            found = tuple(max(pair) for pair in zip(found, machine.sizes()))
        return found

    def test_the_greatest_sizes(self):
        for program, query in self.PROGRAMS:
            with self.subTest(program):
                found = [self.greatest(program, query.format(2 * count)) for count in (3, 4, 5, 11, 30)]
                self.assertEqual(found, [found[0]] * 5)

    def test_from_5_calls_on(self):
        program, query = self.PROGRAMS[3]
        found = [self.greatest(program, query.format(count)) for count in range(5, 13)]
        self.assertEqual(found, [found[0]] * 8)

    def test_with_other_plans(self):
        for program, query in self.PROGRAMS[:4]:
            if "-> A = B" in program:
                for plan in ((), (1,), (0, 1, 2)):
                    found = [self.greatest(program, query.format(count), plan=plan) for count in (5, 6, 17)]
                    self.assertEqual(found, [found[0]] * 3)

    def test_what_is_not_bounded_grows(self):
        program = "p(0, X). p(N, X) :- 0 < N, M is N - 1, p(M, f(X))."
        found = [self.greatest(program, f"p({count}, a)")[0] for count in (5, 6, 7)]
        self.assertEqual(found, sorted(set(found)))
        program = "p(0). p(N) :- 0 < N, M is N - 1, p(M), true, q. q."
        found = [self.greatest(program, f"p({count})")[2] for count in (5, 6, 7)]
        self.assertEqual(found, [found[0], found[0] + 1, found[0] + 2])


if __name__ == "__main__":
    unittest.main()
