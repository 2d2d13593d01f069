"""Reading the code of a clause back."""

from hornbook.steps import joined, step_goals
from hornbook.terms import renumber_together

TURNS = {"if": "else", "either": "or"}


class Part:
    """A construct that is not at its end: its kind and the location of its mark.

    `stop` is the index at which the part that is read ends, and `close` the index behind
    the whole construct. A negation has one part only.
    """

    def __init__(self, kind, mark, stop, close):
        self.kind = kind
        self.mark = mark
        self.stop = stop
        self.close = close
        self.is_last = kind == "not"


class Reading:
    """The steps of a body, as far as they are read from code.

    Terms are kept as numbers, which are indexes of the list `links`: None for a variable,
    otherwise a node and the list of the numbers of its arguments, or None and the list of
    one number that stands for the same term. `held` has the numbers of what the locations
    hold; that of a slot is the same wherever the slot is written, since it is the slot of
    one variable. `returns` tells for each label behind a call how many steps come before it.
    """

    def __init__(self, code, arity):
        self.code = code
        self.links = []
        self.held = {}
        self.arguments = [self.held_at(("x", place)) for place in range(arity)]
        self.children = []
        self.rows = []
        self.steps = []
        self.returns = {}
        at = 0
        while at < len(code):
            self.close_parts(at)
            at += self.read(at)
        self.close_parts(at)

    def new_number(self, link):
        """Return the number of a new term."""
        self.links.append(link)
        return len(self.links) - 1

    def held_at(self, location):
        """Return the number of what a location holds, a new variable if nothing is known of it."""
        if location not in self.held:
            self.held[location] = self.new_number(None)
        return self.held[location]

    def write_variable(self, location):
        """Write a variable to a location, and return its number."""
        if location[0] == "x":
            self.held[location] = self.new_number(None)
        return self.held_at(location)

    def term_with(self, number):
        """Return the term with a number."""
        nodes = []
        waiting = [number]
        while len(waiting) > 0:
            number = waiting.pop()
            if self.links[number] is None:
                nodes.append(("v", number))
                continue
            node, children = self.links[number]
            if node is not None:
                nodes.append(node)
            waiting.extend(children[::-1])
        return tuple(nodes)

    def close_parts(self, at):
        """Add the steps between and behind the parts that end at an index."""
        while len(self.rows) > 0 and self.rows[-1].stop == at:
            row = self.rows[-1]
            if row.is_last:
                self.rows.pop()
                self.steps.append(("end", row.kind))
            else:
                self.steps.append((TURNS[row.kind],))
                row.is_last = True
                row.stop = row.close

    def begin(self, kind, mark, label):
        """Begin a construct whose choice point continues at a label."""
        close = self.rows[-1].stop if len(self.rows) > 0 else len(self.code)
        if self.code[label - 1][0] == "jump":
            close = self.code[label - 1][1]
        self.rows.append(Part(kind, mark, label, close))
        self.steps.append((kind,))

    def read(self, at):
        """Read the instruction at an index, and return the number of instructions that were read."""
        instruction = self.code[at]
        word = instruction[0]
        if word == "mark":
            return self.read_mark(at, instruction[1])
        if word == "try_else":
            self.begin("either", None, instruction[1])
        elif word == "commit":
            return self.read_commit(instruction[1])
        elif word in ("cut", "fail"):
            self.steps.append((word,))
        elif word in ("call", "execute"):
            self.read_call(instruction[1], instruction[2])
            self.returns[at + 1] = len(self.steps)
        elif word.startswith("get_"):
            self.read_get(instruction)
        elif word.startswith("put_"):
            self.read_put(instruction)
        elif word.startswith("unify_") or word.startswith("set_"):
            self.read_part(instruction)
        return 1

    def read_mark(self, at, mark):
        """Read the instructions with which a condition or a negation begins."""
        label = self.code[at + 1][1]
        negated = self.code[label - 2:label] == (("commit", mark), ("fail",))
        self.begin("not" if negated else "if", mark, label)
        # The slot of a level comes directly before that of the mark.
        return 3 if self.code[at + 2] == ("mark", ("y", mark[1] - 1)) else 2

    def read_commit(self, mark):
        """Read a commit, which ends a condition or a negated goal, or is a cut in one."""
        if len(self.rows) == 0 or self.rows[-1].mark != mark:
            self.steps.append(("cut",))
        elif self.rows[-1].kind == "not":
            return 2
        else:
            self.steps.append(("then",))
        return 1

    def read_call(self, name, arity):
        """Read the call of a goal."""
        nodes = [("f", name, arity)]
        for place in range(arity):
            nodes.extend(self.term_with(self.held_at(("x", place))))
        self.steps.append(("call", tuple(nodes)))

    def read_get(self, instruction):
        """Read an instruction that unifies an argument with a part of the head."""
        number = self.held_at(("x", instruction[-1]))
        word = instruction[0]
        if word == "get_variable":
            self.held[instruction[1]] = number
        elif word == "get_value":
            self.links[number] = (None, [self.held_at(instruction[1])])
        elif word == "get_constant":
            self.links[number] = (instruction[1], [])
        else:
            self.children = []
            self.links[number] = (("f", instruction[1], instruction[2]), self.children)

    def read_put(self, instruction):
        """Read an instruction that stores an argument of a goal."""
        word = instruction[0]
        if word == "put_structure":
            self.children = []
            symbol = ("f", instruction[1], instruction[2])
            self.held[instruction[3]] = self.new_number((symbol, self.children))
        elif word == "put_variable":
            self.held[("x", instruction[2])] = self.write_variable(instruction[1])
        elif word == "put_value":
            self.held[("x", instruction[2])] = self.held_at(instruction[1])
        else:
            self.held[("x", instruction[2])] = self.new_number((instruction[1], []))

    def read_part(self, instruction):
        """Read an instruction for an argument of a compound term."""
        if instruction[0].endswith("_variable"):
            self.children.append(self.write_variable(instruction[1]))
        elif instruction[0].endswith("_value"):
            self.children.append(self.held_at(instruction[1]))
        else:
            self.children.append(self.new_number((instruction[1], [])))


def decompile(code, name, arity):
    """Return the head and the body of the clause whose code this is."""
    reading = Reading(code, arity)
    nodes = [("f", name, arity)]
    for number in reading.arguments:
        nodes.extend(reading.term_with(number))
    head, body = renumber_together([nodes, joined(step_goals(reading.steps))])
    return head, body
