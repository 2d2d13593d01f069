"""The instructions of the abstract machine, but for calls.

Each action gets the state of the machine, in which the next instruction is the one behind,
and an instruction. It returns False if the machine must backtrack, otherwise True.
"""


def get_variable(state, instruction):
    """Copy a register to a location."""
    state.put(instruction[1], state.registers[instruction[2]])
    return True


def get_value(state, instruction):
    """Unify a location with a register."""
    return state.heap.unify(state.fetch(instruction[1]), state.registers[instruction[2]])


def get_constant(state, instruction):
    """Unify a constant with a register."""
    return state.heap.unify(state.registers[instruction[2]], instruction[1])


def get_structure(state, instruction):
    """Begin to unify a register with a compound term: read it, or build it for a variable."""
    _, name, arity, place = instruction
    cell = state.heap.follow(state.registers[place])
    if not isinstance(cell, tuple) or cell[0] == "f":
        return False
    if cell[0] == "ref":
        state.reading = None
        state.target = cell
        state.built = ("str", state.heap.push_cell(("f", name, arity)))
        state.missing = arity
        return True
    state.reading = cell[1] + 1
    return state.heap.cell_at(cell[1]) == ("f", name, arity)


def read_part(state):
    """Return the next argument of the compound term that is read."""
    state.reading += 1
    return state.heap.cell_at(state.reading - 1)


def end_part(state):
    """Bind the variable for which a compound term is built behind its last argument."""
    state.missing -= 1
    return state.missing > 0 or state.heap.unify(state.target, state.built)


def unify_variable(state, instruction):
    """Store an argument in a location."""
    if state.reading is not None:
        state.put(instruction[1], read_part(state))
        return True
    state.put(instruction[1], state.heap.push_variable())
    return end_part(state)


def unify_value(state, instruction):
    """Unify an argument with a location."""
    cell = state.fetch(instruction[1])
    if state.reading is not None:
        return state.heap.unify(read_part(state), cell)
    state.heap.push_cell(cell)
    return end_part(state)


def unify_constant(state, instruction):
    """Unify an argument with a constant."""
    if state.reading is not None:
        return state.heap.unify(read_part(state), instruction[1])
    state.heap.push_cell(instruction[1])
    return end_part(state)


def put_variable(state, instruction):
    """Make a new variable, and store it in a location and a register."""
    cell = state.heap.new_variable()
    state.put(instruction[1], cell)
    state.registers[instruction[2]] = cell
    return True


def put_value(state, instruction):
    """Copy a location to a register."""
    state.registers[instruction[2]] = state.fetch(instruction[1])
    return True


def put_constant(state, instruction):
    """Store a constant in a register."""
    state.registers[instruction[2]] = instruction[1]
    return True


def put_structure(state, instruction):
    """Begin to build a compound term in a location."""
    _, name, arity, location = instruction
    state.put(location, ("str", state.heap.push_cell(("f", name, arity))))
    return True


def set_variable(state, instruction):
    """Make a new variable as an argument, and store it in a location."""
    state.put(instruction[1], state.heap.push_variable())
    return True


def set_value(state, instruction):
    """Take a location as an argument."""
    state.heap.push_cell(state.fetch(instruction[1]))
    return True


def set_constant(state, instruction):
    """Take a constant as an argument."""
    state.heap.push_cell(instruction[1])
    return True


def allocate(state, instruction):
    """Make a new frame."""
    state.add_frame(instruction[1])
    return True


def deallocate(state, instruction):
    """Leave the current frame."""
    state.leave_frame()
    return True


def proceed(state, instruction):
    """End the code."""
    state.proceed()
    return True


def mark(state, instruction):
    """Store the number of choice points in a location."""
    state.put(instruction[1], len(state.choices))
    return True


def commit(state, instruction):
    """Remove all choice points but as many as a location says."""
    state.leave_choices(state.fetch(instruction[1]))
    return True


def cut(state, instruction):
    """Remove all choice points but as many as there were when the code was called."""
    framed = state.code[0][0] == "allocate"
    state.leave_choices(state.frames[state.frame].level if framed else state.level)
    return True


def try_else(state, instruction):
    """Add a choice point that continues at a label."""
    state.add_choice("label", state.code, instruction[1], [], None)
    return True


def jump(state, instruction):
    """Continue at a label."""
    state.at = instruction[1]
    return True


def fail(state, instruction):
    """Backtrack."""
    return False


ACTIONS = {
    "get_variable": get_variable, "get_value": get_value, "get_constant": get_constant,
    "get_structure": get_structure, "unify_variable": unify_variable, "unify_value": unify_value,
    "unify_constant": unify_constant, "put_variable": put_variable, "put_value": put_value,
    "put_constant": put_constant, "put_structure": put_structure, "set_variable": set_variable,
    "set_value": set_value, "set_constant": set_constant, "allocate": allocate, "deallocate": deallocate,
    "proceed": proceed, "mark": mark, "commit": commit, "cut": cut, "try_else": try_else, "jump": jump, "fail": fail,
}
