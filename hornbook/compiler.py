"""Compiling clauses to code of the abstract machine."""

from hornbook.instructions import reads, successors, writes
from hornbook.layout import Layout
from hornbook.steps import MIDDLE, body_steps
from hornbook.terms import MOST_ARITY, arity_of, is_variable, parts, variables


class Coder:
    """The code of a clause, as far as it is made.

    `known` has the variables that were written on the path to the next instruction, and
    `registers` those of the present chunk that are kept in registers. Labels are keys of
    the dict `labels` until the code is complete.
    """

    def __init__(self, head, layout):
        self.layout = layout
        self.first_free = max(MOST_ARITY, arity_of(head[0]))
        self.next_free = self.first_free
        self.registers = {}
        self.known = {}
        # What was known at the beginning of each construct that is not at its end, and the
        # slots of the levels of the conditions and negations among them.
        self.saved = []
        self.cut_levels = []
        self.code = []
        self.labels = {}

    def emit(self, *instruction):
        """Add an instruction."""
        self.code.append(instruction)

    def new_register(self):
        """Return a register that is not used yet in this chunk."""
        self.next_free += 1
        return ("x", self.next_free - 1)

    def new_chunk(self):
        """Begin a chunk: whatever is kept in registers is lost."""
        self.registers = {}
        self.next_free = self.first_free

    def place_label(self, key):
        """Let a label be the index of the next instruction."""
        self.labels[key] = len(self.code)

    def location(self, number):
        """Return the location of a variable."""
        if number in self.layout.slots:
            return self.layout.slots[number]
        if number not in self.registers:
            self.registers[number] = self.new_register()
        return self.registers[number]

    def add_variable(self, words, number, *more):
        """Add the first instruction for a variable that is not known yet, the second one for others."""
        word = words[1] if number in self.known else words[0]
        location = self.location(number)
        self.known[number] = True
        self.emit(word, location, *more)

    def get_head(self, head):
        """Add the instructions that unify the arguments of a call with those of the head."""
        for place, term in enumerate(parts(head)):
            node = term[0]
            if arity_of(node) > 0:
                self.get_structures(term, place)
            elif not is_variable(node):
                self.emit("get_constant", node, place)
            # A variable that occurs nowhere else is whatever the argument is.
            elif len(self.layout.places[node[1]]) > 1:
                self.add_variable(("get_variable", "get_value"), node[1], place)

    def get_structures(self, term, place):
        """Add the instructions that unify a register with a compound term."""
        waiting = [(term, place)]
        while len(waiting) > 0:
            whole, number = waiting.pop(0)
            self.emit("get_structure", whole[0][1], whole[0][2], number)
            for part in parts(whole):
                if is_variable(part[0]):
                    self.add_variable(("unify_variable", "unify_value"), part[0][1])
                elif arity_of(part[0]) == 0:
                    self.emit("unify_constant", part[0])
                else:
                    inner = self.new_register()
                    self.emit("unify_variable", inner)
                    waiting.append((part, inner[1]))

    def put_argument(self, term, place):
        """Add the instructions that store a term in an argument register."""
        if arity_of(term[0]) > 0:
            self.put_structures(term, ("x", place))
        elif is_variable(term[0]):
            self.add_variable(("put_variable", "put_value"), term[0][1], place)
        else:
            self.emit("put_constant", term[0], place)

    def put_structures(self, term, target):
        """Add the instructions that store a compound term in a location, its inner terms first."""
        # Nodes without arguments and locations of compound terms, the leftmost one last.
        made = []
        for at in range(len(term) - 1, -1, -1):
            node = term[at]
            if arity_of(node) == 0:
                made.append(node)
                continue
            location = target if at == 0 else self.new_register()
            self.emit("put_structure", node[1], node[2], location)
            for _ in range(node[2]):
                self.set_part(made.pop())
            made.append(location)

    def set_part(self, part):
        """Add the instruction for an argument of a compound term that is built."""
        if is_variable(part):
            self.add_variable(("set_variable", "set_value"), part[1])
        elif isinstance(part, tuple) and part[0] == "x":
            self.emit("set_value", part)
        else:
            self.emit("set_constant", part)

    def leave(self):
        """Add the instruction that leaves the frame, if there is one."""
        if self.layout.framed:
            self.emit("deallocate")

    def end_part(self, at):
        """End the code if a part that ends at this index is the last thing to do and has not left yet."""
        if not self.layout.is_left(at):
            self.leave()
            self.emit("proceed")

    def emit_call(self, at, goal):
        """Add the instructions that call a goal."""
        for place, term in enumerate(parts(goal)):
            self.put_argument(term, place)
        _, name, arity = goal[0]
        if self.layout.is_over(at + 1):
            self.leave()
            self.emit("execute", name, arity)
        else:
            self.emit("call", name, arity, 0)
        self.new_chunk()

    def emit_cut(self):
        """Add the instruction for a cut."""
        if len(self.cut_levels) == 0:
            self.emit("cut")
        else:
            self.emit("commit", self.cut_levels[-1])

    def begin_construct(self, at):
        """Add the instructions with which a construct begins."""
        self.new_chunk()
        for number in self.layout.shared(at):
            if number not in self.known:
                self.add_variable(("put_variable", "put_variable"), number, self.first_free)
        self.saved.append((at, dict(self.known)))
        is_marked = at in self.layout.marks
        if is_marked:
            self.emit("mark", self.layout.marks[at])
        self.emit("try_else", self.layout.turns[at])
        if at in self.layout.levels:
            self.emit("mark", self.layout.levels[at])
        if is_marked:
            self.cut_levels.append(self.layout.levels.get(at))

    def emit_commit(self):
        """Add the instruction behind the condition or the negated goal of the innermost construct."""
        self.cut_levels.pop()
        self.emit("commit", self.layout.marks[self.saved[-1][0]])
        self.new_chunk()

    def end_first_part(self, at):
        """End the first part of the innermost construct, and begin the second one."""
        if self.layout.is_over(at):
            self.end_part(at)
        else:
            self.emit("jump", self.layout.ends[at])
        self.place_label(at)
        self.known = dict(self.saved[-1][1])
        self.new_chunk()

    def end_construct(self, at, kind):
        """End the innermost construct."""
        if kind == "not":
            self.emit_commit()
            self.emit("fail")
        elif self.layout.is_over(at):
            self.end_part(at)
        self.place_label(at)
        self.known = self.saved.pop()[1]
        self.new_chunk()

    def add_step(self, at):
        """Add the instructions of a step."""
        step = self.layout.steps[at]
        word = step[0]
        if word == "call":
            self.emit_call(at, step[1])
        elif word == "cut":
            self.emit_cut()
        elif word == "fail":
            self.emit("fail")
        elif word == "then":
            self.emit_commit()
        elif word == "end":
            self.end_construct(at, step[1])
        elif word in MIDDLE:
            self.end_first_part(at)
        else:
            self.begin_construct(at)

    def add_clause(self, head):
        """Add the instructions of the whole clause."""
        if self.layout.framed:
            self.emit("allocate", self.layout.slot_count)
        self.get_head(head)
        for at in range(len(self.layout.steps)):
            self.add_step(at)
        self.end_part(len(self.layout.steps))


def with_labels(code, labels):
    """Return code with the indexes of instructions in place of the keys of labels."""
    return [
        (instruction[0], labels[instruction[1]]) if instruction[0] in ("try_else", "jump") else instruction
        for instruction in code
    ]


def slot_mask(locations):
    """Return the number in which the bits of the slots among the locations are set."""
    mask = 0
    for kind, number in locations:
        if kind == "y":
            mask |= 1 << number
    return mask


def live_slots(code):
    """Return the list of the masks of the slots that are read from each label on before they are written."""
    live = [0] * len(code)
    # Code has no way back, so that what follows an instruction is known before it.
    for at in range(len(code) - 1, -1, -1):
        mask = 0
        for label in successors(code, at):
            mask |= live[label]
        mask -= mask & slot_mask(writes(code[at]))
        live[at] = mask | slot_mask(reads(code[at]))
    return live


def with_call_sizes(code):
    """Return code in which the last part of each `call` tells how many slots are needed behind it."""
    live = live_slots(code)
    # For each instruction the slots that are needed if a choice point before it continues.
    held = [0] * len(code)
    sized = []
    for at, instruction in enumerate(code):
        mask = held[at]
        if instruction[0] == "try_else":
            mask |= live[instruction[1]]
        for label in successors(code, at):
            held[label] |= mask
        if instruction[0] == "call":
            needed = mask | live[at + 1]
            sized.append((*instruction[:3], needed.bit_length()))
        else:
            sized.append(instruction)
    return tuple(sized)


def compile_clause(head, body):
    """Return the code of a clause."""
    coder = Coder(head, Layout(head, body_steps(body)))
    coder.add_clause(head)
    return with_call_sizes(with_labels(coder.code, coder.labels))


def compile_goal(goal):
    """Return the code of a goal, called with its variables, and the list of these variables."""
    numbers = variables(goal)
    head = (("f", "goal", len(numbers)), *[("v", number) for number in numbers])
    return compile_clause(head, goal), numbers
