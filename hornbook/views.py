"""Views of a machine: the items that the search has at the same moment."""

from hornbook.decompiler import Reading
from hornbook.fading import faded_value
from hornbook.steps import FAIL, FIRST, MIDDLE, construct_places, step_goals
from hornbook.terms import renumber_together, variables
from hornbook.unify import apply


def items_behind(steps, at):
    """Return the list of the items for what is left of a body from a step on.

    An item is a tuple of a word and a list of terms.
    """
    ends, _ = construct_places(steps)
    found = []
    while at < len(steps):
        step = steps[at]
        start = at
        if step[0] in FIRST or step[0] in MIDDLE:
            at = ends[at]
        at += 1
        if step == ("end", "not"):
            found.extend([("commit", []), ("goal", [FAIL])])
        elif step[0] == "then":
            found.append(("commit", []))
        elif step[0] != "end" and step[0] not in MIDDLE:
            found.append(("goal", step_goals(steps[start:at])))
    return found


def code_items(state, code, label, frame, first):
    """Return the items for what is left of code from a label on.

    Variables that are in no slot yet are numbered from first on.
    """
    reading = Reading(code, 0)
    items = items_behind(reading.steps, reading.returns[label])
    values = {number: (("v", first + number),) for number in range(len(reading.links))}
    # A slot that no item shows may have a term of any size.
    shown = {number: True for _, terms in items for term in terms for number in variables(term)}
    held = state.frames[frame]
    for (kind, number), name in reading.held.items():
        if kind != "y" or name not in shown:
            continue
        if held.slots[number] is not None:
            values[name] = state.load(held.slots[number])
        elif number in held.faded:
            values[name] = faded_value(state.heap, held.faded[number])
    return [(word, [apply(values, term) for term in terms]) for word, terms in items], len(values)


def marker_item(state, instruction, frame):
    """Return the item for a marker."""
    word = instruction[0]
    if word == "exit":
        return ("exit", [])
    if word == "found":
        return ("found", [state.load(state.choices[instruction[1]].held[0])])
    return ("answer", [state.load(cell) for cell in state.frames[frame].slots])


def is_marker(instruction):
    """Tell whether an instruction is the one of a marker."""
    return instruction[0] in ("exit", "found", "answer")


def places_behind(state, instruction):
    """Return the places where the execution continues behind a call, as chain does."""
    if instruction[0] == "call":
        return state.chain(state.code, state.at + 1, state.frame)
    return state.chain(state.return_code, state.return_label, state.frame)


def item_of(word, terms):
    """Return an item as it stands in a view."""
    if word == "answer":
        return (word, terms)
    return (word, *terms)


def view_of(state, instruction):
    """Return the view at an instruction that is a call."""
    _, name, arity = instruction[:3]
    nodes = [("f", name, arity)]
    for place in range(arity):
        nodes.extend(state.load(state.registers[place]))
    items = [("goal", [tuple(nodes)])]
    first = state.heap.size()
    for code, label, frame in places_behind(state, instruction):
        if is_marker(code[label]):
            items.append(marker_item(state, code[label], frame))
        else:
            more, count = code_items(state, code, label, frame, first)
            items.extend(more)
            first += count
    terms = renumber_together([term for _, given in items for term in given])
    view = []
    for word, given in items:
        view.append(item_of(word, terms[:len(given)]))
        del terms[:len(given)]
    return view
