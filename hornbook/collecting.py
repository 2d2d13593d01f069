"""Collections of the cells that a machine does not need any more."""

from hornbook.collector import slide
from hornbook.fading import Fading, shown_slots, term_of_slot


def slots_behind(code, label):
    """Return the number of slots that are used behind the call before a label."""
    return code[label - 1][3] if label > 0 else 0


def slot_counts(state):
    """Return a dict from the index of each reachable frame to the number of its slots that count.

    Return also a dict from the indexes of the frames of callers to the code that uses them, and
    the first label in it at which one continues.
    """
    counts = {}
    callers = {}
    waiting = [(index, len(state.frames[index].slots))
               for index in [state.frame] + [choice.frame for choice in state.choices]]
    while len(waiting) > 0:
        index, count = waiting.pop()
        frame = state.frames[index]
        if index not in counts and frame.caller >= 0:
            waiting.append((frame.caller, slots_behind(frame.code, frame.label)))
            _, label = callers.get(frame.caller, (frame.code, frame.label))
            callers[frame.caller] = (frame.code, min(label, frame.label))
        counts[index] = max(count, counts.get(index, 0))
    return counts, callers


def forget_slots(state, counts, callers):
    """Let the slots of reachable frames that do not count be as if they were not written.

    Return the list of the frames, numbers and cells of those that fade.
    """
    found = []
    for index, count in counts.items():
        frame = state.frames[index]
        written = [number for number in range(count, len(frame.slots)) if frame.slots[number] is not None]
        if len(written) > 0:
            code, label = callers[index]
            shown = shown_slots(code, label)
            found.extend([(frame, number, frame.slots[number]) for number in written if number in shown])
        for number in written:
            frame.slots[number] = None
    return found


def earlier_terms(state, choice, before, after, fading):
    """Return a dict of the terms that faded slots get when a choice point is taken.

    `before` and `after` have the terms of all faded slots before and after the collection.
    """
    is_lost = fading.go_back(choice.trail_length)
    if not is_lost and len(choice.earlier) == 0:
        return {}
    written = {(index, number): True for _, number, index in state.slot_trail[choice.slot_writes:]}
    found = {}
    for place in before:
        # A slot that was written later counts as not written then.
        if place[0] < choice.kept and place not in written:
            term = fading.fade(choice.earlier.get(place, before[place]))
            if term != after[place]:
                found[place] = term
    return found


def fade_slots(state, counts, forgotten, fading):
    """Keep what views show of slots that were forgotten in this collection and in earlier ones."""
    for frame, number, cell in forgotten:
        frame.faded[number] = term_of_slot(cell, fading.old_cells)
    before = {(index, number): term for index in counts for number, term in state.frames[index].faded.items()}
    if len(before) == 0:
        return
    after = {place: fading.fade(before[place]) for place in before}
    for choice in state.choices:
        choice.earlier = earlier_terms(state, choice, before, after, fading)
    for index, number in after:
        state.frames[index].faded[number] = after[(index, number)]
    state.lowest_name = fading.lowest


def root_places(state, counts):
    """Return the places of the roots: pairs of a list or dict and an index or key in it."""
    found = [(state.registers, number) for number in state.registers]
    for index, count in counts.items():
        slots = state.frames[index].slots
        found.extend([(slots, number) for number in range(count) if slots[number] is not None])
    for choice in state.choices:
        found.extend([(choice.held, place) for place in range(len(choice.held))])
    return found


def sizes_before(kept):
    """Return the list of how many are kept before each index, and in all."""
    found = [0]
    for is_kept in kept:
        found.append(found[-1] + (1 if is_kept else 0))
    return found


def collect(state):
    """Remove all cells that are not reachable, and move the others."""
    counts, callers = slot_counts(state)
    forgotten = forget_slots(state, counts, callers)
    places = root_places(state, counts)
    old_cells, old_trail = state.heap.cells(), state.heap.trail()
    cells, roots, moves = slide(old_cells, [box[place] for box, place in places])
    for (box, place), cell in zip(places, roots):
        box[place] = cell
    fade_slots(state, counts, forgotten, Fading(old_cells, old_trail, moves, state.lowest_name))
    state.heap.renew(cells, [moves[index] for index in old_trail if index in moves])
    heap_sizes = sizes_before([index in moves for index in range(len(old_cells))])
    trail_sizes = sizes_before([index in moves for index in old_trail])
    for choice in state.choices:
        choice.heap_length = heap_sizes[choice.heap_length]
        choice.trail_length = trail_sizes[choice.trail_length]
    state.protect_older()
