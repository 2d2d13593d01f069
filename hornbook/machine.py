"""The abstract machine: it runs the compiled clauses of a program."""

from hornbook.actions import ACTIONS
from hornbook.calls import called_goal
from hornbook.collecting import collect
from hornbook.compiler import compile_clause, compile_goal
from hornbook.errors import TooLarge
from hornbook.faults import existence_error, indicator, instantiation_error
from hornbook.indexing import head_keys, is_candidate
from hornbook.primitives import perform
from hornbook.program import MOST_CLAUSES, goal_form, is_built_in, is_control
from hornbook.state import State
from hornbook.terms import compound, is_variable, list_term, parts, renumber, renumber_together, variables
from hornbook.unify import MOST_NODES, unify
from hornbook.views import view_of

CALLS = ("call", "execute")
# Between the instruction before these and the last of them a compound term is not complete.
PARTS = ("unify_variable", "unify_value", "unify_constant", "set_variable", "set_value", "set_constant")


def checked(term):
    """Return a term that must not be too large."""
    if len(term) > MOST_NODES:
        raise TooLarge("a term has more than 200 nodes")
    return term


class Entry:
    """A clause as a machine needs it: the keys of the arguments of its head, and its code."""

    def __init__(self, head, body):
        self.first_nodes = head_keys(head)
        self.code = compile_clause(head, body)


class Machine:
    """A machine that runs a query.

    The variables of the query are kept in a frame at the bottom. Behind the last goal of
    the query, of a catch and of a findall the execution continues at a marker: code whose
    instruction at the label is ("answer",), ("exit", k) or ("found", k), with the index of
    the choice point.
    """

    def __init__(self, program, query, *, plan=(0,), collect_at=()):
        self._program = program
        self._plan = tuple(plan)
        self._collect_at = {number: True for number in collect_at}
        self._collection_is_due = False
        self._count = 0
        self._events = []
        self._ended = False
        # The clauses of the present program that were called, and all that were compiled.
        self._predicates = {}
        self._entries = {}
        self._state = State()
        numbers = sorted(variables(query))
        cells = {number: self._state.heap.new_variable() for number in numbers}
        self._state.return_to((), 0)
        self._state.add_frame(len(numbers))
        for place, number in enumerate(numbers):
            self._state.put(("y", place), cells[number])
        self._state.return_to((("call", "answer", 0, len(numbers)), ("answer",)), 1)
        if len(goal_form(query)) > MOST_NODES:
            self._end(("limit",))
        else:
            code, order = compile_goal(query)
            self._state.enter(code, [cells[number] for number in order])

    def step(self):
        """Execute one instruction, if the machine has not ended."""
        if self._ended:
            return
        state = self._state
        instruction = state.code[state.at]
        if self._count in self._collect_at:
            self._collection_is_due = True
        if self._collection_is_due and instruction[0] not in PARTS:
            self._collection_is_due = False
            collect(state)
        self._count += 1
        state.at += 1
        try:
            if not self._execute(instruction):
                self._backtrack()
        except TooLarge:
            self._end(("limit",))

    def run(self, instructions):
        """Execute at most so many instructions, and return all events so far."""
        while instructions > 0 and not self._ended:
            self.step()
            instructions -= 1
        return [("answer", list(event[1])) if event[0] == "answer" else event for event in self._events]

    def ended(self):
        """Tell whether the machine has ended."""
        return self._ended

    def program(self):
        """Return a program with the current clauses."""
        return self._program

    def at_call(self):
        """Return the indicator of the predicate that the next instruction calls, or None.

        It is None also for a control construct and for a built-in predicate.
        """
        if self._ended:
            return None
        instruction = self._state.code[self._state.at]
        if instruction[0] not in CALLS:
            return None
        _, name, arity = instruction[:3]
        return None if is_control(name, arity) or is_built_in(name, arity) else (name, arity)

    def view(self):
        """Return the items that the search has at this call, or None if there is no call.

        It is None also where an item is too large to be loaded: there the search has ended.
        """
        if self.at_call() is None:
            return None
        try:
            return view_of(self._state, self._state.code[self._state.at])
        except TooLarge:
            return None

    def sizes(self):
        """Return the numbers of cells, entries of the trail, frames and choice points."""
        state = self._state
        return state.heap.size(), state.heap.trail_size(), len(state.frames), len(state.choices)

    def _end(self, event):
        """Add the last event."""
        self._events.append(event)
        self._ended = True

    def _execute(self, instruction):
        """Execute an instruction, and tell whether it succeeds."""
        state = self._state
        word = instruction[0]
        if word in ACTIONS:
            action = ACTIONS[word]
            return action(state, instruction)
        if word == "call":
            state.return_to(state.code, state.at)
            return self._call_by_name(instruction[1], instruction[2])
        if word == "execute":
            return self._call_by_name(instruction[1], instruction[2])
        if word == "exit":
            choice = state.choices[instruction[1]]
            state.code, state.at = choice.code, choice.label
            return True
        if word == "found":
            choice = state.choices[instruction[1]]
            choice.rest.append(renumber(checked(state.load(choice.held[0]))))
            return False
        # The search has ended before an answer with a larger term.
        answer = [checked(state.load(cell)) for cell in state.frames[state.frame].slots]
        self._events.append(("answer", renumber_together(answer)))
        return False

    def _call_by_name(self, name, arity):
        """Call a predicate or a control construct, and tell whether it succeeds."""
        state = self._state
        state.level = len(state.choices)
        state.registers = {place: state.registers[place] for place in range(arity)}
        if is_control(name, arity):
            return self._call_control(name, arity)
        if is_built_in(name, arity):
            return self._call_built_in(name, arity)
        entries = self._predicate(name, arity)
        if len(entries) == 0 and not self._program.is_dynamic(name, arity):
            return self._raise_error(existence_error(name, arity), name, arity)
        wanted = {index: state.heap.node_of(state.registers[index]) for index in self._plan if index < arity}
        codes = [entry.code for entry in entries if is_candidate(entry.first_nodes, wanted)]
        if len(codes) == 0:
            return False
        cells = [state.registers[place] for place in range(arity)]
        if len(codes) > 1:
            state.add_choice("clauses", state.return_code, state.return_label, cells, codes[:0:-1])
        state.enter(codes[0], cells)
        return True

    def _predicate(self, name, arity):
        """Return the entries of the clauses of a predicate."""
        if (name, arity) not in self._predicates:
            pairs = self._program.predicate(name, arity)
            for pair in pairs:
                if pair not in self._entries:
                    self._entries[pair] = Entry(pair[0], pair[1])
            self._predicates[(name, arity)] = [self._entries[pair] for pair in pairs]
        return self._predicates[(name, arity)]

    def _goal(self, name, arity):
        """Return the goal that is called, which must not be too large."""
        nodes = [("f", name, arity)]
        for place in range(arity):
            nodes.extend(self._state.load(self._state.registers[place]))
        return checked(tuple(nodes))

    def _call_control(self, name, arity):
        """Call a control construct that is called like a predicate."""
        state = self._state
        words = parts(self._goal(name, arity))
        cells = state.registers
        if name == "throw":
            if is_variable(words[0][0]):
                return self._raise_error(instantiation_error(), name, arity)
            return self._throw_ball(words[0])
        if name == "call":
            error, goal = called_goal(words)
            if error is not None:
                return self._raise_error(error, name, arity)
            return self._enter_goal(goal)
        if name == "catch":
            return self._enter_marked("catch", words[0], "exit", [cells[1], cells[2]])
        return self._enter_marked("findall", words[1], "found", [cells[0], cells[2]])

    def _enter_marked(self, kind, goal, word, held):
        """Add the choice point of a catch or findall, and call its goal in front of a marker."""
        state = self._state
        state.add_choice(kind, state.return_code, state.return_label, held, [])
        state.return_to(((word, state.level),), 0)
        state.level += 1
        return self._enter_goal(goal)

    def _enter_goal(self, goal):
        """Compile a goal, and enter its code."""
        code, numbers = compile_goal(checked(goal_form(goal)))
        self._state.enter(code, [("ref", number) for number in numbers])
        return True

    def _call_built_in(self, name, arity):
        """Call a built-in predicate."""
        state = self._state
        result = perform(self._goal(name, arity), state.heap.size(), self._program)
        word = result[0]
        if word == "raise":
            return self._raise_error(result[1], name, arity)
        if word == "alternatives":
            cell = state.heap.store(result[1], {number: ("ref", number) for number in variables(result[1])})
            return len(result[2]) > 0 and self._try_terms(cell, result[2][::-1])
        if word == "write":
            self._events.append(result)
        elif word == "change":
            self._change(result[1])
        if word == "fail" or (word in ("unify", "change") and not self._unify_terms(result[-3], result[-2])):
            return False
        state.proceed()
        return True

    def _change(self, program):
        """Put another program in place of the present one."""
        self._program = program
        self._predicates = {}
        # The clauses that are gone are not kept for ever.
        if len(self._entries) > 2 * MOST_CLAUSES:
            present = {pair: True for pair in program.clauses()}
            self._entries = {pair: entry for pair, entry in self._entries.items() if pair in present}

    def _unify_terms(self, left, right):
        """Unify terms; their variables with a number below the size of the heap are its variables."""
        heap = self._state.heap
        unifier = unify(left, right)
        if unifier is None:
            return False
        size = heap.size()
        places = {number: ("ref", number) for number in variables(left) + variables(right) if number < size}
        for number, value in unifier.items():
            if number < size:
                heap.bind(number, heap.store(value, places))
        return True

    def _try_terms(self, cell, terms):
        """Unify a cell with the last of some terms, and keep the others for later."""
        state = self._state
        if len(terms) > 1:
            state.add_choice("terms", state.return_code, state.return_label, [cell], terms[:-1])
        state.proceed()
        return state.heap.unify(cell, state.heap.store(terms[-1], {}))

    def _backtrack(self):
        """Go back to the highest choice point from which the machine can continue."""
        state = self._state
        while len(state.choices) > 0:
            choice = state.choices[-1]
            state.undo(choice)
            state.leave_choices(len(state.choices) - 1)
            state.return_to(choice.code, choice.label)
            state.level = len(state.choices)
            if choice.kind == "label":
                state.proceed()
                return
            if choice.kind == "clauses":
                self._enter_next(choice)
                return
            if choice.kind == "terms" and self._try_terms(choice.held[0], choice.rest):
                return
            if choice.kind == "findall" and self._end_findall(choice):
                return
        self._end(("end",))

    def _enter_next(self, choice):
        """Enter the next clause of a choice point that was removed."""
        state = self._state
        if len(choice.rest) > 1:
            state.add_choice("clauses", choice.code, choice.label, choice.held, choice.rest[:-1])
        state.enter(choice.rest[-1], choice.held)

    def _end_findall(self, choice):
        """Unify the list of the terms that a findall has found with its result, and tell if it succeeds."""
        heap = self._state.heap
        first = heap.size()
        found = []
        for term in choice.rest:
            found.append(renumber(term, first))
            first += len(variables(term))
        self._state.proceed()
        return self._unify_terms(checked(list_term(found)), self._state.load(choice.held[1]))

    def _raise_error(self, error, name, arity):
        """Throw the term for an error of a goal."""
        return self._throw_ball(compound("error", error, indicator(name, arity)))

    def _throw_ball(self, ball):
        """Throw a term."""
        state = self._state
        checked(ball)
        places = state.chain(state.return_code, state.return_label, state.frame)
        for index in [code[label][1] for code, label, _ in places if code[label][0] == "exit"]:
            choice = state.choices[index]
            state.undo(choice)
            state.leave_choices(index)
            if self._unify_terms(state.load(choice.held[0]), renumber(ball, state.heap.size())):
                state.return_to(choice.code, choice.label)
                state.level = index
                return self._enter_goal(state.load(choice.held[1]))
        self._end(("error", renumber(ball)))
        return True
