"""The state of the abstract machine: its heap, registers, frames and choice points."""

from hornbook.cells import Heap

# A machine does not go on with a term that has more nodes.
MOST_LOADED = 100000


class Frame:
    """A frame: its slots, and where its caller continues.

    A slot that was not written is None. `caller` is the index of the caller's frame, and
    `level` the number of choice points at the call. `faded` has the terms of faded slots.
    """

    def __init__(self, size, code, label, caller, level):
        self.slots = [None] * size
        self.code = code
        self.label = label
        self.caller = caller
        self.level = level
        self.faded = {}


class Choice:
    """A choice point: what is remembered, and what it is for.

    `kind` is "clauses", "terms", "label", "catch" or "findall", `code` and `label` tell
    where to continue. `held` has the cells that must be kept, and `rest` what is left.
    `earlier` has terms of faded slots, by the index of the frame and the number of the slot:
    those that the slots get when the choice point is taken, where they are other ones now.
    """

    def __init__(self, kind, code, label, held, rest):
        self.kind = kind
        self.code = code
        self.label = label
        self.held = held
        self.rest = rest
        self.frame = 0
        self.kept = 0
        self.heap_length = 0
        self.trail_length = 0
        self.slot_writes = 0
        self.earlier = {}


class State:
    """The state of a machine.

    `code` and `at` tell the next instruction, `return_code` and `return_label` where the
    execution continues behind the code, and `level` is the number of choice points when
    the code was called. `frame` is the index of the current frame. `slot_trail` has the
    slots that were written while a choice point remembered their frame, each with the frame,
    its number, and the index of the frame: backtracking makes them count as not written, since
    each of them refers to a variable that was made for it, behind the end that the heap then has.
    """

    def __init__(self):
        self.heap = Heap()
        self.registers = {}
        self.frames = []
        self.choices = []
        self.code = ()
        self.at = 0
        self.return_code = ()
        self.return_label = 0
        self.level = 0
        self.frame = -1
        self.slot_trail = []
        # The lowest number of a variable in a faded slot.
        self.lowest_name = 0
        # While a compound term is read, the index of its next argument. While one is built,
        # None, with the variable that it is for and the number of the arguments to come.
        self.reading = None
        self.built = None
        self.target = None
        self.missing = 0

    def fetch(self, location):
        """Return the cell in a location."""
        kind, number = location
        return self.registers[number] if kind == "x" else self.frames[self.frame].slots[number]

    def put(self, location, cell):
        """Store a cell in a location."""
        kind, number = location
        if kind == "x":
            self.registers[number] = cell
            return
        frame = self.frames[self.frame]
        frame.slots[number] = cell
        if len(self.choices) > 0 and self.frame < self.choices[-1].kept:
            self.slot_trail.append((frame, number, self.frame))

    def load(self, cell):
        """Return the term of a cell, or raise TooLarge if the machine does not go on with it."""
        return self.heap.load_within(cell, MOST_LOADED)

    def enter(self, code, cells):
        """Continue at the beginning of code, with these cells as its arguments."""
        self.registers = {place: cell for place, cell in enumerate(cells)}
        self.code = code
        self.at = 0

    def proceed(self):
        """Continue where the execution continues behind the code."""
        self.code = self.return_code
        self.at = self.return_label

    def return_to(self, code, label):
        """Let the execution continue at a label behind the code that is called next."""
        self.return_code = code
        self.return_label = label

    def add_frame(self, size):
        """Make a new frame the current one."""
        place = self.frame + 1
        if len(self.choices) > 0:
            place = max(place, self.choices[-1].kept)
        del self.frames[place:]
        self.frames.append(Frame(size, self.return_code, self.return_label, self.frame, self.level))
        self.frame = place

    def leave_frame(self):
        """Make the caller's frame the current one."""
        frame = self.frames[self.frame]
        self.return_to(frame.code, frame.label)
        self.frame = frame.caller

    def add_choice(self, kind, code, label, held, rest):
        """Add a choice point."""
        choice = Choice(kind, code, label, held, rest)
        choice.frame = self.frame
        choice.kept = self.frame + 1
        if len(self.choices) > 0:
            choice.kept = max(choice.kept, self.choices[-1].kept)
        choice.heap_length = self.heap.size()
        choice.trail_length = self.heap.trail_size()
        choice.slot_writes = len(self.slot_trail)
        self.choices.append(choice)
        self.protect_older()

    def protect_older(self):
        """Let the variables that are older than the highest choice point be trailed."""
        self.heap.protect(self.choices[-1].heap_length if len(self.choices) > 0 else 0)

    def leave_choices(self, count):
        """Remove all choice points but the lowest ones, so many."""
        if count >= len(self.choices):
            return
        del self.choices[count:]
        self.protect_older()
        # Of the slots that were written only those of frames that are still remembered matter.
        start, kept = 0, 0
        if count > 0:
            start, kept = self.choices[-1].slot_writes, self.choices[-1].kept
        self.slot_trail[start:] = [entry for entry in self.slot_trail[start:] if entry[2] < kept]

    def undo(self, choice):
        """Bring back what a choice point remembers."""
        self.heap.cut(choice.heap_length, choice.trail_length)
        while len(self.slot_trail) > choice.slot_writes:
            frame, number, _ = self.slot_trail.pop()
            frame.slots[number] = None
            frame.faded.pop(number, None)
        for (index, number), term in choice.earlier.items():
            self.frames[index].faded[number] = term
        self.registers = {}
        self.frame = choice.frame

    def chain(self, code, label, frame):
        """Return where the execution continues from a label on, one code behind the other.

        Each place has a code, a label and the index of the frame. The code of a marker is its
        one instruction.
        """
        found = [(code, label, frame)]
        while code[label][0] != "answer":
            if code[label][0] in ("exit", "found"):
                held = self.choices[code[label][1]]
                code, label, frame = held.code, held.label, held.frame
            else:
                held = self.frames[frame]
                code, label, frame = held.code, held.label, held.caller
            found.append((code, label, frame))
        return found
