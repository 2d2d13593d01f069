"""What is decided of a clause before its code is made: where its variables and levels are kept."""

from hornbook.steps import MIDDLE, construct_places
from hornbook.terms import is_variable

OPEN_ENDS = (("end", "if"), ("end", "either"))


def is_framed(steps):
    """Tell whether the code of a body with these steps needs a frame."""
    words = [step[0] for step in steps]
    return not all([word == "cut" for word in words[:-1]]) or words[-1:] not in ([], ["cut"], ["call"])


def cut_owners(steps):
    """Return a dict of the first steps of the conditions and negations that have a cut of their own."""
    owners = {}
    # The first steps of the conditions and negations that are not at their end.
    rows = []
    for at, step in enumerate(steps):
        if step[0] in ("if", "not"):
            rows.append(at)
        elif step[0] == "then" or step == ("end", "not"):
            rows.pop()
        elif step[0] == "cut" and len(rows) > 0:
            owners[rows[-1]] = True
    return owners


def chunks(steps):
    """Return the list of the numbers of the chunks to which the steps belong.

    The head and what stands before the first call belong to chunk 0. Behind a call, and
    at each step of a construct, another chunk begins, and registers are lost.
    """
    found = []
    chunk = 0
    for step in steps:
        if step[0] not in ("call", "cut", "fail"):
            chunk += 1
        found.append(chunk)
        if step[0] == "call":
            chunk += 1
    return found


def occurrences(head, steps):
    """Return a dict from each variable to the list of the places of its occurrences.

    A place is the index of a step, or -1 for the head.
    """
    found = {}
    for at, term in [(-1, head)] + [(at, step[1]) for at, step in enumerate(steps) if step[0] == "call"]:
        for node in term:
            if is_variable(node):
                found.setdefault(node[1], []).append(at)
    return found


class Layout:
    """The steps of a body, and what is known of them.

    `places` has the places of the occurrences of each variable. `slots` has the slots of
    the variables that are needed in more than one chunk; all others are kept in registers.
    `marks` and `levels` have slots for the first steps of conditions and negations: those
    for the number of choice points before them, and in them, where a cut needs it. The
    slot of a level comes directly before that of the mark, by which it is known.
    """

    def __init__(self, head, steps):
        self.steps = steps
        self.ends, self.turns = construct_places(steps)
        self.framed = is_framed(steps)
        self.places = occurrences(head, steps)
        self.chunks = chunks(steps)
        self.slots = {}
        self.marks = {}
        self.levels = {}
        self.slot_count = 0
        for number in self.places:
            if len({self.chunk(at) for at in self.places[number]}) > 1:
                self.slots[number] = self.new_slot()
        owners = cut_owners(steps)
        for at, step in enumerate(steps):
            if step[0] in ("if", "not"):
                if at in owners:
                    self.levels[at] = self.new_slot()
                self.marks[at] = self.new_slot()

    def new_slot(self):
        """Return a slot that is not used yet."""
        self.slot_count += 1
        return ("y", self.slot_count - 1)

    def chunk(self, at):
        """Return the chunk of a place."""
        return 0 if at < 0 else self.chunks[at]

    def is_over(self, at):
        """Tell whether nothing remains to be done from the step with this index on."""
        while at < len(self.steps):
            if self.steps[at][0] in MIDDLE:
                at = self.ends[at]
            elif self.steps[at] not in OPEN_ENDS:
                return False
            at += 1
        return True

    def is_left(self, at):
        """Tell whether the code has left the clause before the end of a part at this index."""
        return at > 0 and (self.steps[at - 1][0] == "call" or self.steps[at - 1] in OPEN_ENDS)

    def shared(self, first):
        """Return the variables of the construct at this index that occur behind it, too.

        Only those that are kept in slots, and in the order of their slots.
        """
        end = self.ends[first]
        return [
            number for number in self.slots
            if self.places[number][-1] > end and any([first < at < end for at in self.places[number]])
        ]
