"""Points 52 to 54, and hornbook/compiler.py."""

import time
import unittest

from helper import (
    BUILT_IN, a, chain, f, i, items, left_chain, normal_body, normal_goals, random_body, random_goal, random_term, read,
    right_chain, rule, seeded, shown, split_body, v)
from hornbook.compiler import compile_clause, compile_goal
from hornbook.instructions import MOST_REGISTERS
from hornbook.program import Program, goal_form, split_clause
from hornbook.terms import parts, renumber, variables
from hornbook.unify import apply, compose, unify
from test_search import WordSearch

DYNAMIC = [("p", 1), ("q", 2), ("r", 0)] + [("g", arity) for arity in range(9)]
IN_PLACE = [(",", 2), ("!", 0), ("true", 0), ("fail", 0), (";", 2), ("->", 2), ("\\+", 1)]


def compiled(text):
    """The code of a clause that is given as text."""
    return compile_clause(*split_clause(read(text)))


def is_variable(term):
    return isinstance(term[0], tuple) and term[0][0] == "v"


def locations_of(instruction):
    """What an instruction reads and writes, word by word of point 51."""
    word, rest = instruction[0], instruction[1:]
    if word in ("call", "execute"):
        return {("x", k) for k in range(rest[1])}, set()
    read, written = set(), set()
    if word in ("get_variable", "get_value"):
        read.add(("x", rest[1]))
        (written if word == "get_variable" else read).add(rest[0])
    elif word in ("get_constant", "get_structure"):
        read.add(("x", rest[-1]))
    elif word in ("put_variable", "put_value"):
        (written if word == "put_variable" else read).add(rest[0])
        written.add(("x", rest[1]))
    elif word == "put_constant":
        written.add(("x", rest[1]))
    elif word == "put_structure":
        written.add(rest[2])
    elif word in ("unify_variable", "set_variable", "mark"):
        written.add(rest[0])
    elif word in ("unify_value", "set_value", "commit"):
        read.add(rest[0])
    return read, written


def next_of(code, at):
    """Where the execution can continue behind an instruction."""
    word = code[at][0]
    if word in ("execute", "proceed", "fail"):
        return []
    if word == "jump":
        return [code[at][1]]
    return [at + 1, code[at][1]] if word == "try_else" else [at + 1]


def reached_from(code, start):
    """The indexes that can be reached from one of these, themselves counted."""
    found, waiting = set(), list(start)
    while waiting:
        at = waiting.pop()
        if at not in found:
            found.add(at)
            waiting += next_of(code, at)
    return found


def is_read_first(code, start, slot):
    """Whether a slot is read on a path from an index on before it is written."""
    seen, waiting = set(), [start]
    while waiting:
        at = waiting.pop()
        if at in seen:
            continue
        seen.add(at)
        read, written = locations_of(code[at])
        if slot in read:
            return True
        if slot not in written:
            waiting += next_of(code, at)
    return False


def read_first_table(code, slots):
    """For each index the slots that are read from there on before they are written."""
    table = [set() for _ in code]
    changed = True
    while changed:
        changed = False
        for at in range(len(code) - 1, -1, -1):
            read, written = locations_of(code[at])
            found = set(read & slots)
            for label in next_of(code, at):
                found |= table[label] - written
            if found != table[at]:
                table[at], changed = found, True
    return table


def least_number(table, code, at):
    """The last part that a call must have."""
    slots = set(table[at + 1])
    for start, instruction in enumerate(code):
        if instruction[0] == "try_else" and at in reached_from(code, next_of(code, start)):
            slots |= table[instruction[1]]
    return max([number + 1 for _, number in slots], default=0)


def last_goals(goals):
    """The goals that must be called by `execute`, and whether the body can also end in another way."""
    if not goals:
        return []
    goal, words = goals[-1], parts(goals[-1])
    if goal[0] == ("f", ";", 2):
        left, right = words
        if left[0] == ("f", "->", 2):
            left = parts(left)[1]
        return last_goals(split_body(left)) + last_goals(split_body(right))
    if goal[0][1:] in IN_PLACE:
        return []
    return [goal]


def all_calls(goals):
    """All goals that are called, in the form of point 55."""
    found = []
    for goal in goals:
        words = parts(goal)
        if goal[0] in (("f", ";", 2), ("f", "->", 2), ("f", "\\+", 1)):
            for word in words:
                found += all_calls(split_body(word))
        elif goal[0][1:] not in IN_PLACE:
            found.append(goal)
    return found


def needs_frame(body):
    """Point 54, word by word."""
    goals = split_body(body)
    calls = [at for at, goal in enumerate(goals) if goal != a("!")]
    if any(isinstance(goal[0], tuple) and goal[0][1:] in IN_PLACE and goal != a("!") for goal in goals):
        return True
    return len(calls) > 1 or any(at < len(goals) - 1 for at in calls)


class Frame:
    def __init__(self, after, caller, level):
        self.slots, self.after, self.caller, self.level = {}, after, caller, level


class Executor:
    """Executes code by the words of point 51, over terms and substitutions instead of cells.

    `trace` has the goals that are called, with the number of choice points before each, and
    the answers. Whatever may not be read is removed: registers behind calls and labels, slots
    that are not needed behind a call, and a location in which a compound term is built.
    """

    def __init__(self, program, query):
        self.codes = {}
        for head, body in program:
            self.codes.setdefault(head[0][1:], []).append((compile_clause(head, body), head[0][2]))
        self.first = max([number + 1 for number in variables(query)], default=0)
        self.answer = [v(number) for number in sorted(variables(query))]
        self.bindings, self.frame, self.choices, self.trace, self.over = {}, None, [], [], False
        code, numbers = compile_goal(goal_form(query))
        self.registers = {place: v(number) for place, number in enumerate(numbers)}
        self.after, self.code, self.at, self.level = None, code, 0, 0
        self.parts = self.target = self.reading = None

    def value(self, term):
        return apply(self.bindings, term)

    def fresh(self):
        self.first += 1
        return v(self.first - 1)

    def read(self, location):
        kind, number = location
        return self.registers[number] if kind == "x" else self.frame.slots[number]

    def write(self, location, term):
        kind, number = location
        if kind == "x":
            self.registers[number] = term
        else:
            self.frame.slots[number] = term

    def unify(self, left, right):
        unifier = unify(self.value(left), self.value(right))
        if unifier is None:
            return False
        self.bindings = compose(self.bindings, unifier)
        return True

    def choice(self, kind, *data):
        frames, frame = [], self.frame
        while frame is not None:
            frames.append((frame, dict(frame.slots)))
            frame = frame.caller
        self.choices.append((kind, self.bindings, self.frame, frames, self.after, data))

    def backtrack(self):
        if not self.choices:
            self.trace.append("end")
            self.over = True
            return
        kind, self.bindings, self.frame, frames, self.after, data = self.choices.pop()
        for frame, slots in frames:
            frame.slots = dict(slots)
        self.registers = {}
        if kind == "label":
            self.code, self.at = data
        else:
            self.attempt(*data)

    def attempt(self, arguments, codes):
        self.level = len(self.choices)
        if not codes:
            self.backtrack()
            return
        if len(codes) > 1:
            self.choice("clauses", arguments, codes[1:])
        self.registers = dict(enumerate(arguments))
        self.code, self.at = codes[0][0], 0

    def call(self, name, arity):
        arguments = [self.value(self.registers[place]) for place in range(arity)]
        self.trace.append((renumber(f(name, *arguments)), len(self.choices)))
        self.registers = {}
        if (name, arity) in self.codes or (name, arity) in DYNAMIC:
            self.attempt(arguments, self.codes.get((name, arity), []))
        elif (name, arity) == ("call", 1) and isinstance(arguments[0][0], tuple) and arguments[0][0][0] == "f":
            code, numbers = compile_goal(goal_form(arguments[0]))
            self.level = len(self.choices)
            self.registers = {place: v(number) for place, number in enumerate(numbers)}
            self.code, self.at = code, 0
        else:
            self.trace.append("error")
            self.over = True

    def proceed(self):
        self.registers = {}
        if self.after is None:
            self.trace.append(tuple(renumber(f("w", *[self.value(term) for term in self.answer[:8]]))))
            self.backtrack()
        else:
            self.code, self.at = self.after

    def part(self, word, what):
        """One argument of a compound term."""
        word = word.split("_")[1]
        if self.reading is not None:
            given = self.reading.pop(0)
            if word == "variable":
                self.write(what, given)
            elif not self.unify(given, self.read(what) if word == "value" else (what,)):
                self.backtrack()
                self.reading = None
                return
            if not self.reading:
                self.reading = None
            return
        if word == "variable":
            given = self.fresh()
            self.write(what, given)
        else:
            given = self.read(what) if word == "value" else (what,)
        self.parts.append(given)
        name, arity, location = self.target
        if len(self.parts) == arity:
            whole, self.target = f(name, *self.parts), None
            if location[0] == "bind":
                if not self.unify(location[1], whole):
                    self.backtrack()
            else:
                self.write(location, whole)

    def step(self):
        instruction = self.code[self.at]
        word = instruction[0]
        if word not in ("unify_variable", "unify_value", "unify_constant", "set_variable", "set_value", "set_constant"):
            assert self.target is None and self.reading is None
        self.at += 1
        if word == "allocate":
            self.frame = Frame(self.after, self.frame, self.level)
            self.frame.size = instruction[1]
        elif word == "deallocate":
            self.after, self.frame = self.frame.after, self.frame.caller
        elif word == "call":
            self.trim(instruction[3])
            self.after = (self.code, self.at)
            self.call(instruction[1], instruction[2])
        elif word == "execute":
            self.call(instruction[1], instruction[2])
        elif word == "proceed":
            self.proceed()
        elif word == "mark":
            assert instruction[1][0] == "x" or instruction[1][1] < self.frame.size
            self.write(instruction[1], len(self.choices))
        elif word == "commit":
            del self.choices[self.read(instruction[1]):]
        elif word == "cut":
            framed = self.code[0][0] == "allocate"
            del self.choices[self.frame.level if framed else self.level:]
        elif word == "try_else":
            self.choice("label", self.code, instruction[1])
        elif word == "jump":
            self.at = instruction[1]
        elif word == "fail":
            self.backtrack()
        elif word.startswith(("unify", "set")):
            self.part(word, instruction[1])
        else:
            self.term_step(*instruction)

    def trim(self, count):
        """Remove the slots that are not used behind a call, nor at the labels of this code."""
        for kind, _, frame, frames, _, _ in self.choices:
            if kind == "label" and frame is self.frame:
                frames[0] = (frame, {number: term for number, term in frames[0][1].items() if number < count})
        self.frame.slots = {number: term for number, term in self.frame.slots.items() if number < count}

    def term_step(self, word, *rest):
        if word == "get_variable":
            self.write(rest[0], self.registers[rest[1]])
        elif word == "put_value":
            self.registers[rest[1]] = self.read(rest[0])
        elif word == "put_constant":
            self.registers[rest[1]] = (rest[0],)
        elif word == "put_variable":
            made = self.fresh()
            self.write(rest[0], made)
            self.registers[rest[1]] = made
        elif word == "put_structure":
            self.parts, self.target = [], rest
            if rest[2][0] == "x":
                self.registers.pop(rest[2][1], None)
        elif word == "get_structure":
            given = self.value(self.registers[rest[2]])
            if is_variable(given):
                self.parts, self.target = [], (rest[0], rest[1], ("bind", given))
            elif given[0] == ("f", rest[0], rest[1]):
                self.reading = parts(given)
            else:
                self.backtrack()
        else:
            other = self.read(rest[0]) if word == "get_value" else (rest[0],)
            if not self.unify(self.registers[rest[1]], other):
                self.backtrack()


def search_trace(program, query, steps):
    """The goals that a search calls, with the numbers of choice points, and the answers."""
    search, found = WordSearch(program, query), []
    for _ in range(steps):
        if search.over:
            break
        item = search.list[0]
        if item[0] == "goal":
            name, arity = item[1][0][1:]
            if (name, arity) not in IN_PLACE:
                found.append((renumber(item[1]), len(search.choices)))
        count = len(search.events)
        search.step()
        for event in search.events[count:]:
            if event[0] == "answer":
                found.append(tuple(renumber(f("w", *event[1][:8]))))
            else:
                found.append(event[0])
    return found


def executor_trace(program, query, count):
    """The same of an executor, at least so many entries, if there are."""
    executor = Executor(program, query)
    left = 20000
    while not executor.over and len(executor.trace) < count and left:
        executor.step()
        left -= 1
    return executor.trace


def random_program(source):
    """Clauses of p/1, q/2 and r/0 with constructs in their bodies."""
    return [(random_goal(source), random_body(source, source.randrange(1, 9), random_goal))
            for _ in range(source.randrange(3, 8))]


class InPlace(unittest.TestCase):

    def goals(self, code):
        return [instruction[1:3] for instruction in code if instruction[0] in ("call", "execute")]

    def test_constructs_are_never_called(self):
        for text in ("p :- a, b", "p :- !", "p :- true", "p :- fail", "p :- a ; b", "p :- a -> b", "p :- a -> b ; c",
                     "p :- \\+ a", "p :- \\+ \\+ (a, ! ; b -> c ; \\+ d)", "p :- (a -> b ; c -> d), !"):
            for name, arity in self.goals(compiled(text)):
                self.assertEqual(arity, 0)
                self.assertIn(name, "abcd")

    def test_each_construct_in_each_other_one(self):
        inner = ["a, b", "!", "true", "fail", "a ; b", "a -> b", "a -> b ; c", "\\+ a"]
        for one in inner:
            for outer in ("({}), d", "d, ({})", "(({}) ; d)", "(d ; ({}))", "(({}) -> d)", "(d -> ({}))",
                          "(({}) -> d ; e)", "(d -> ({}) ; e)", "(d -> e ; ({}))", "\\+ ({})"):
                for name, arity in self.goals(compiled("p :- " + outer.format(one))):
                    self.assertEqual(arity, 0)
                    self.assertIn(name, "abcde")

    def test_variables_and_integers_as_goals(self):
        for text in ("p(X) :- X", "p(X) :- X, a", "p(X) :- (a ; X)", "p(X) :- (X -> a ; b)", "p(X) :- \\+ X",
                     "p(X) :- 3", "p(X) :- (a, 3), b", "p(X) :- \\+ -7"):
            self.assertEqual(self.goals(compiled(text)).count(("call", 1)), 1, text)
        self.assertEqual(compiled("p :- 3"), (("put_constant", 3, 0), ("execute", "call", 1)))
        self.assertEqual(compile_goal(v(4)), (compile_clause(f("q", v(0)), v(0)), [4]))

    def test_other_constructs_and_built_in_predicates_are_called(self):
        called = [("call", arity) for arity in range(1, 9)] + [("catch", 3), ("findall", 3), ("throw", 1)] + BUILT_IN
        for name, arity in called:
            goal = f(name, *[v(k) for k in range(arity)])
            self.assertEqual(self.goals(compile_clause(a("p"), goal)), [(name, arity)])
            self.assertEqual(self.goals(compile_clause(a("p"), f(",", a("q"), f("\\+", goal)))),
                [("q", 0), (name, arity)])

    def test_their_arguments_are_terms(self):
        for goal in ("call((a, b))", "findall(X, (a ; b), L)", "catch((a -> b), !, \\+ c)", "call(!, X)"):
            code = compiled(f"p :- {goal}")
            self.assertEqual(self.goals(code), [(read(goal)[0][1], read(goal)[0][2])])
            self.assertNotIn("allocate", [instruction[0] for instruction in code])

    def test_names_of_constructs_with_other_arities(self):
        for name, arity in ((",", 1), (",", 3), ("!", 1), ("true", 2), ("fail", 1), (";", 3), (";", 0), ("->", 1),
                            ("->", 3), ("\\+", 0), ("\\+", 2), (",", 0), ("call", 0), ("catch", 2)):
            goal = f(name, *[f("!") for k in range(arity)])
            self.assertEqual(self.goals(compile_clause(a("p"), goal)), [(name, arity)])
            body = f(",", goal, f(";", goal, goal))
            self.assertEqual(self.goals(compile_clause(a("p"), body)), [(name, arity)] * 3)


class Effect(unittest.TestCase):

    def check(self, program, query, steps=300):
        expected = search_trace(Program([f(":-", *pair) for pair in program], DYNAMIC), query, steps)
        found = executor_trace(program, query, len(expected))
        if "limit" in expected:
            expected = expected[:expected.index("limit")]
        self.assertEqual(found[:len(expected)], expected)
        return expected

    def run_text(self, text, query, *expected):
        program = [split_clause(clause) for clause in [read(part) for part in text.split(". ")]]
        found = []
        for entry in self.check(program, read(query)):
            if isinstance(entry, str):
                found.append(entry)
            elif not isinstance(entry[0][0], str):
                found.append((shown(entry[0]), entry[1]))
        self.assertEqual(found[:len(expected)], list(expected))

    def test_calls_in_order(self):
        self.run_text("p(X) :- q(X, Y), r. q(1, 2). q(1, 3). r",
                      "p(1)", ("p(1)", 0), ("q(1,_0)", 0), ("r", 1), ("r", 0))

    def test_what_a_cut_removes(self):
        self.run_text("p(X) :- q(X, Y), !, r. p(X). q(1, 2). q(1, 3). q(1, 4). r. r",
                      "p(1)", ("p(1)", 0), ("q(1,_0)", 1), ("r", 0))
        self.run_text("p(X) :- q(X, Y), (r, !, r ; r). p(X). q(1, 2). q(1, 3). r. r",
                      "p(1)", ("p(1)", 0), ("q(1,_0)", 1), ("r", 3), ("r", 0))

    def test_what_a_condition_removes(self):
        self.run_text("p(X) :- (q(X, Y), r -> r ; r). q(1, 2). q(1, 3). r. r",
                      "p(1)", ("p(1)", 0), ("q(1,_0)", 1), ("r", 2), ("r", 0))
        self.run_text("p(X) :- (q(X, Y), ! -> r ; r), r. q(1, 2). q(1, 3). r",
                      "p(1)", ("p(1)", 0), ("q(1,_0)", 1), ("r", 0), ("r", 0))

    def test_what_a_negation_removes(self):
        self.run_text("p(X) :- q(X, Y), \\+ r, r. p(X) :- r. q(1, 2). q(1, 3). r. r", "p(1)", ("p(1)", 0),
                      ("q(1,_0)", 1), ("r", 3), ("r", 2), ("r", 0))
        self.run_text("p(X) :- \\+ (q(X, Y), !, q(Y, X)), q(X, 1). q(1, 2). q(1, 1)", "p(1)",
                      ("p(1)", 0), ("q(1,_0)", 1), ("q(2,1)", 1), ("q(1,1)", 0))

    def test_heads(self):
        source = seeded(53)
        for _ in range(1500):
            head = f("p", random_term(source, source.randrange(1, 12), ["a", "b", "s"]))
            query = f("p", random_term(source, source.randrange(1, 12), ["a", "b", "s"]))
            self.check([(head, f("p", f("w", *[v(k) for k in range(4)])))], query, 2)

    def test_heads_with_0_to_8_arguments(self):
        source = seeded(8)
        for arity in list(range(9)) * 40:
            terms = [random_term(source, source.randrange(1, 5), ["a", "b"], numbers=6) for _ in range(arity)]
            given = [source.choice((random_term(source, 3, ["a", "b"]), term, v(k))) for k, term in enumerate(terms)]
            if arity == 0:
                self.check([(a("p"), a("r"))], a("p"))
                continue
            head, body = f("h", *terms), f(",", f("g", *terms[::-1]), f("g", *terms))
            program = Program([f(":-", head, body)], DYNAMIC)
            expected = search_trace(program, f("h", *given), 20)
            if "limit" not in expected:
                self.assertEqual(executor_trace([(head, body)], f("h", *given), 50), expected)

    def test_where_variables_first_occur(self):
        for text, query in (
                ("p(X) :- q(Y, Z), q(Z, Y). q(1, 2). q(2, A). q(B, 1)", "p(1)"),
                ("p(X) :- (q(Y, 1) ; q(X, Z)), q(Y, Z). q(1, 1). q(A, 2). q(3, A)", "p(1)"),
                ("p(X) :- (q(Y, 1) ; r), q(Y, X). q(1, 1). q(A, 2). q(3, A). r", "p(Z)"),
                ("p(X) :- (r ; q(Y, 1)), q(Y, X). q(1, 1). q(A, 2). r", "p(Z)"),
                ("p(X) :- (q(Y, 1) -> q(Y, X) ; q(X, Y)), q(Y, Y). q(1, 1). q(A, 2)", "p(2)"),
                ("p(X) :- (q(Y, 5) -> q(Y, X) ; q(X, Y)), q(Y, Y). q(1, 1). q(A, 2)", "p(2)"),
                ("p(X) :- \\+ q(Y, 5), q(Y, X). q(1, 1). q(A, 2)", "p(2)"),
                ("p(X) :- \\+ q(Y, 2), q(Y, X). q(1, 1). q(A, 2)", "p(2)"),
                ("p(X) :- \\+ \\+ q(Y, 2), q(Y, X). q(1, 1). q(1, 2)", "p(2)"),
                ("p(X) :- (q(Y, s(Z)) ; q(Z, s(Y))), (q(Y, W) -> q(W, Z) ; q(Z, W)), q(W, Y). q(1, A). q(A, 2)",
                "p(2)"),
                ("p(X) :- (fail ; q(Y, Z)), (q(Z, Y), fail ; q(Y, Z)). q(1, A). q(A, 2)", "p(2)"),
                ("p(X) :- ((q(Y, 1) ; q(1, Y)) -> q(Y, Z) ; q(Z, Y)), q(Z, X). q(1, A). q(A, 2)", "p(2)"),
                ("p(X) :- q(s(Y), t(Y, Z)), q(t(Z, t(Y, W)), s(s(W))). q(A, B)", "p(2)")):
            program = [split_clause(clause) for clause in [read(part) for part in text.split(". ")]]
            self.check(program, read(query))

    def test_drawn_programs(self):
        source = seeded(52)
        long = 0
        for _ in range(600):
            program = random_program(source)
            long += len(self.check(program, random_body(source, source.randrange(1, 5), random_goal), 60)) > 10
        self.assertGreater(long, 100)

    def test_drawn_programs_of_facts_and_one_rule(self):
        source = seeded(54)
        long = 0
        facts = [(read(text), a("true")) for text in ("p(x)", "p(s(A))", "p(B)", "q(x, A)", "q(A, s(B))", "q(A, A)",
            "r")]
        for _ in range(400):
            clause = (f("h", *[v(k) for k in range(source.randrange(1, 4))]),
                      random_body(source, source.randrange(4, 16), random_goal))
            long += len(self.check(facts + [clause], f("h", *[v(k) for k in range(clause[0][0][2])]), 200)) > 12
        self.assertGreater(long, 40)


class Properties(unittest.TestCase):

    def check(self, head, body, arguments=None):
        code = compile_clause(head, body)
        self.assertIs(type(code), tuple)
        arity = head[0][2]
        slots = {part for instruction in code for part in instruction[1:] if isinstance(part, tuple) and part[0] == "y"}
        self.check_reads(code, arity)
        self.check_frames(code, body, slots)
        self.check_calls(code, body, slots)
        self.check_numbers(code)
        nodes = len(head) + len(body) + 1 if body != a("true") else len(head)
        self.assertLessEqual(len(code), 12 * nodes + 12)
        return code

    def check_reads(self, code, arity):
        """Whatever is read was written on every path; behind a call and at a label registers are lost."""
        known = {0: {("x", number) for number in range(arity)}}
        for at in range(len(code)):
            if at not in known:
                continue
            here = known[at]
            read, written = locations_of(code[at])
            self.assertTrue(read <= here, (code, at))
            if code[at][0] == "allocate":
                self.assertFalse(any(location[0] == "y" for location in here))
            here = here | written
            for label in next_of(code, at):
                if code[at][0] == "call" or (code[at][0] == "try_else" and label != at + 1):
                    here = {location for location in here if location[0] == "y"}
                self.assertGreater(label, at)
                known[label] = known[label] & here if label in known else here
        self.assertNotIn(len(code), known)

    def check_frames(self, code, body, slots):
        words = [instruction[0] for instruction in code]
        if not needs_frame(body):
            self.assertNotIn("allocate", words)
            self.assertNotIn("deallocate", words)
            self.assertFalse(slots)
            return
        self.assertEqual(words.count("allocate"), 1)
        count = code[words.index("allocate")][1]
        self.assertTrue(all(number < count for _, number in slots))
        for at, word in enumerate(words):
            if word == "deallocate":
                self.assertIn(words[at + 1], ("execute", "proceed"))
            if word in ("execute", "proceed"):
                self.assertEqual(words[at - 1], "deallocate")
        # Each way to the end goes through the one `allocate`.
        self.assertEqual(words[0], "allocate")

    def check_calls(self, code, body, slots):
        normal = normal_goals(body)
        execute = [instruction[1:3] for instruction in code if instruction[0] == "execute"]
        call = [instruction[1:3] for instruction in code if instruction[0] == "call"]
        last = last_goals(normal)
        self.assertEqual(execute, [goal[0][1:] for goal in last])
        every = [goal[0][1:] for goal in all_calls(normal)]
        self.assertEqual(sorted(execute + call), sorted(every))
        in_order = [instruction[1:3] for instruction in code if instruction[0] in ("call", "execute")]
        self.assertEqual(in_order, every)
        table = read_first_table(code, slots)
        for at, instruction in enumerate(code):
            if instruction[0] == "call":
                self.assertEqual(instruction[3], least_number(table, code, at), (code, at))

    def check_numbers(self, code):
        for instruction in code:
            for part in instruction[1:]:
                if isinstance(part, tuple) and part[0] in "xy" and len(part) == 2:
                    self.assertLessEqual(part[1], MOST_REGISTERS)
                    self.assertGreaterEqual(part[1], 0)

    def check_text(self, text):
        return self.check(*split_clause(read(text)))

    def test_the_examples(self):
        """Each of them has the properties, and is what is returned."""
        first = (
            ("get_structure", ".", 2, 0), ("unify_variable", ("x", 8)), ("unify_variable", ("x", 9)),
            ("get_variable", ("x", 10), 1), ("get_structure", ".", 2, 2), ("unify_value", ("x", 8)),
            ("unify_variable", ("x", 11)), ("put_value", ("x", 9), 0), ("put_value", ("x", 10), 1),
            ("put_value", ("x", 11), 2), ("execute", "app", 3))
        second = (
            ("allocate", 2), ("get_variable", ("y", 0), 0), ("mark", ("y", 1)), ("try_else", 9), ("call", "q", 0, 2),
            ("commit", ("y", 1)), ("put_value", ("y", 0), 0), ("deallocate",), ("execute", "r", 1),
            ("deallocate",), ("execute", "s", 0))
        self.assertEqual(self.check_text("app([H|X], Y, [H|Z]) :- app(X, Y, Z)"), first)
        self.assertEqual(self.check_text("p(X) :- (q -> r(X) ; s)"), second)

    def test_facts(self):
        for text in ("p", "p(X)", "p(X, X)", "p(a, 3, f(X, g(X, Y), b), [1, 2|Z])", "p(f(f(f(f(X)))))",
                     "p(A, B, C, D, E, F, G, H)", "p(X) :- true", "p :- true, true"):
            code = self.check_text(text)
            self.assertEqual(code[-1], ("proceed",))

    def test_without_a_frame(self):
        for text in ("p :- q", "p(X) :- q(X)", "p(X, Y) :- q(Y, X)", "p :- !", "p :- !, q", "p(X) :- !, true, q(X)",
                     "p :- !, !", "p :- true, q, true", "p(X) :- X", "p :- 3", "p(X) :- write(X)", "p :- (!, true), q"):
            self.assertNotIn("allocate", [instruction[0] for instruction in self.check_text(text)])

    def test_with_a_frame(self):
        for text in ("p :- q, r", "p :- q, !", "p :- fail", "p :- q ; r", "p :- q -> r", "p :- \\+ q",
            "p :- q, true, r",
                     "p(X) :- q(X), r(X)", "p :- q, fail", "p :- !, q, !", "p :- (q, true), !", "p :- true ; true",
                     "p :- true -> true", "p :- \\+ true", "p :- \\+ !"):
            self.assertEqual(self.check_text(text)[0][0], "allocate")

    def test_last_calls(self):
        for text, execute in (
                ("p :- q, r", "r"), ("p :- q, r, true", "r"), ("p :- (q, r), (true, true)", "r"),
                ("p :- (q ; r)", "qr"), ("p :- (q ; r), true", "qr"), ("p :- (q, s ; r, t)", "st"),
                ("p :- (q -> r ; s)", "rs"), ("p :- (q -> r)", "r"), ("p :- ((q -> r ; s) ; t)", "rst"),
                ("p :- \\+ q", ""), ("p :- (q ; r), s", "s"), ("p :- q, !", ""), ("p :- q, fail", ""),
                ("p :- (q, fail ; r, !)", ""), ("p :- ((q ; r) -> (s ; t) ; u)", "stu"), ("p :- (true ; q)", "q"),
                ("p :- q, (true ; true)", ""), ("p :- q, \\+ true", ""), ("p :- (q ; r), (true -> true)", "")):
            found = [instruction[1] for instruction in self.check_text(text) if instruction[0] == "execute"]
            self.assertEqual("".join(found), execute, text)

    def test_the_last_part_of_calls(self):
        for text, numbers in (
                ("p(X, Y) :- q, r(X), s(Y), t", [2, 2, 0]),
                ("p(X, Y) :- q, r(Y), s(X), t", [2, 1, 0]),
                ("p(X) :- (q, r ; s(X)), t", [1, 1, 1]),
                ("p(X) :- (q -> r, s ; t(X)), u", [2, 1, 1, 1]),
                ("p(X) :- q, fail, r(X)", [0]),
                ("p :- q(X), r(X), s(Y), t(Y), u", [1, 0, 2, 0])):
            found = [instruction[3] for instruction in self.check_text(text) if instruction[0] == "call"]
            self.assertEqual(found, numbers, text)

    def test_drawn_clauses(self):
        source = seeded(51)
        for _ in range(1500):
            arity = source.choice((0, 1, 2, 3, 8))
            head = f("p", *[random_term(source, source.randrange(1, 6), ["a", "b"]) for _ in range(arity)])
            self.check(head, random_body(source, source.randrange(1, 25), random_goal))

    def test_large_clauses(self):
        source = seeded(200)
        for _ in range(25):
            body = random_body(source, 50, random_goal)
            while not 100 < len(body) < 190:
                body = random_body(source, 50, random_goal)
            self.check(f("p", v(0), v(7)), body)

    def test_many_registers(self):
        wide = f("t", *[f("u", *[v(8 * k + j) for j in range(8)]) for k in range(8)])
        self.check(f("p", wide), a("true"))
        self.check(f("p", wide), f("q", wide))
        self.check(a("p"), f(",", f("q", wide), f("q", wide)))
        for goal in (f("q", wide, wide), f(",", f("q", wide), a("!")), f("q", *[f("u", *[f("u", *[
                v(40 * k + 8 * j + n) for n in range(7)]) for j in range(4)]) for k in range(5)])):
            code, numbers = compile_goal(goal)
            self.assertEqual(numbers, variables(goal))
            self.check(f("g", *[v(number) for number in numbers]), goal)
            self.check_numbers(code)
        goal = f("q", *[f("u", *[v(8 * k + j) for j in range(8)]) for k in range(8)])
        for _ in range(2):
            goal = goal[:-1] + f("u", *[f("u", *[v(100 + 8 * k + j) for j in range(8)]) for k in range(7)])
        self.assertLessEqual(len(goal), 200)
        self.check_numbers(compile_goal(goal)[0])
        negations = chain("\\+", 190, f("q", v(0)))
        self.check(f("p", v(0)), negations)
        cuts = a("!")
        for _ in range(65):
            cuts = f("\\+", f(",", a("!"), cuts))
        self.check(f("p", v(0)), cuts)

    def test_nested_200_deep(self):
        for head, body in (
                (f("p", chain("s", 197, v(0))), a("true")), (f("p", left_chain("t", 98, v(0))), a("true")),
                (f("p", right_chain("t", 98, v(0))), a("true")), (a("p"), f("q", chain("s", 196, v(0)))),
                (a("p"), f("q", left_chain("t", 97, v(0)))), (a("p"), f("q", right_chain("t", 97, v(0)))),
                (a("p"), left_chain(",", 98, a("q"))), (a("p"), right_chain(",", 98, a("q"))),
                (a("p"), left_chain(";", 98, a("q"))), (a("p"), right_chain(";", 98, a("q"))),
                (a("p"), left_chain("->", 98, a("q"))), (a("p"), right_chain("->", 98, a("q"))),
                (a("p"), chain("\\+", 196, a("q"))), (a("p"), chain("\\+", 196, v(0))),
                (a("p"), (("f", ";", 2), ("f", "->", 2)) * 39 + a("q") + (a("x") + a("y")) * 39),
                (a("p"), (("f", ";", 2), ("f", "->", 2), ("f", "q", 0), ("f", "!", 0)) * 45 + a("r"))):
            self.check(head, body)

    def test_larger_than_any_clause(self):
        started = time.time()
        for body in (right_chain(",", 400, a("q")), left_chain(",", 400, a("q")), chain("\\+", 900, a("q")),
                     right_chain(";", 400, a("q"))):
            self.assertGreater(len(compile_clause(a("p"), body)), 400)
        self.assertLess(time.time() - started, 20)


class Goals(unittest.TestCase):

    def test_the_numbers_of_the_variables(self):
        for goal, numbers in ((f("q", v(7), v(2), v(7)), [7, 2]), (a("q"), []), (v(3), [3]), (i(3), []),
                              (f(",", f("q", f("s", v(9))), f("r", v(1), v(9))), [9, 1])):
            code, found = compile_goal(goal)
            self.assertEqual(found, numbers)
            self.assertIs(type(found), list)
            self.assertIs(type(code), tuple)
            self.assertEqual(code, compile_clause(f("any", *[v(number) for number in numbers]), goal))

    def test_more_than_8_variables(self):
        goal = f("q", items(*[v(k) for k in range(30, 60)]), v(2))
        code, numbers = compile_goal(goal)
        self.assertEqual(numbers, [*range(30, 60), 2])
        self.assertEqual(code, compile_clause((("f", "any", 31), *[("v", number) for number in numbers]), goal))

    def test_the_effect(self):
        source = seeded(66)
        facts = [(read(text), a("true")) for text in ("p(x)", "p(y)", "q(x, x)", "q(A, y)", "r")]
        program = Program([f(":-", *pair) for pair in facts], DYNAMIC)
        for _ in range(200):
            goal = random_body(source, source.randrange(1, 8), random_goal)
            expected = search_trace(program, goal, 100)
            self.assertEqual(executor_trace(facts, goal, len(expected))[:len(expected)], expected)

    def test_arguments_are_not_changed(self):
        goal = read("q(X), r(X)")
        self.assertEqual(compile_goal(goal), compile_goal(read("q(X), r(X)")))
        first = compile_goal(goal)
        first[1].append(7)
        self.assertEqual(compile_goal(goal)[1], [0])


if __name__ == "__main__":
    unittest.main()
