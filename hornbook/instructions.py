"""The instructions of the abstract machine: what they read and write, and where they lead."""

MOST_REGISTERS = 400
# For each instruction that reads or writes locations of its own parts the indexes of these
# parts. A part that is no location is the number of an argument register.
READS = {
    "get_variable": (2,), "get_value": (1, 2), "get_constant": (2,), "get_structure": (3,),
    "unify_value": (1,), "put_value": (1,), "set_value": (1,), "commit": (1,),
}
WRITES = {
    "get_variable": (1,), "unify_variable": (1,), "put_variable": (1, 2), "put_value": (2,),
    "put_constant": (2,), "put_structure": (3,), "set_variable": (1,), "mark": (1,),
}
CALLS = ("call", "execute")
# Behind these the execution never continues in the same code.
LAST = ("execute", "proceed", "fail")


def locations(instruction, places):
    """Return the locations that stand in an instruction at these indexes, without doubles."""
    found = {}
    for place in places:
        part = instruction[place]
        found[part if isinstance(part, tuple) else ("x", part)] = True
    return list(found)


def reads(instruction):
    """Return the list of the locations that an instruction reads."""
    if instruction[0] in CALLS:
        return [("x", number) for number in range(instruction[2])]
    return locations(instruction, READS.get(instruction[0], ()))


def writes(instruction):
    """Return the list of the locations that an instruction writes."""
    return locations(instruction, WRITES.get(instruction[0], ()))


def successors(code, at):
    """Return the labels at which the execution can continue behind an instruction."""
    word = code[at][0]
    found = {}
    if word not in LAST and word != "jump":
        found[at + 1] = True
    if word in ("try_else", "jump"):
        found[code[at][1]] = True
    # A label is the index of an instruction, so that there is none behind the last one.
    return [label for label in sorted(list(found)) if label < len(code)]
