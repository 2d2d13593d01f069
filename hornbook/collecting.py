"""Collections of the cells that a machine does not need any more."""

from hornbook.collector import slide
from hornbook.fading import Fading, hidden_slots


def slots_behind(code, label):
    """Return the number of slots that are used behind the call before a label."""
    return code[label - 1][3] if label > 0 else 0


def slot_counts(state):
    """Return a dict from the index of each reachable frame to the number of its slots that count.

    Return also a dict from the indexes of the frames of callers to the code that uses them.
    """
    counts = {}
    codes = {}
    waiting = [(index, len(state.frames[index].slots))
               for index in [state.frame] + [choice.frame for choice in state.choices]]
    while len(waiting) > 0:
        index, count = waiting.pop()
        frame = state.frames[index]
        if index not in counts and frame.caller >= 0:
            waiting.append((frame.caller, slots_behind(frame.code, frame.label)))
            codes[frame.caller] = frame.code
        counts[index] = max(count, counts.get(index, 0))
    return counts, codes


def forget_slots(state, counts, codes):
    """Let the slots of reachable frames that do not count be as if they were not written.

    Return the list of the frames, numbers and cells of those that fade.
    """
    found = []
    for index, count in counts.items():
        frame = state.frames[index]
        written = [number for number in range(count, len(frame.slots)) if frame.slots[number] is not None]
        if len(written) > 0:
            hidden = hidden_slots(codes[index])
            found.extend([(frame, number, frame.slots[number]) for number in written if number in hidden])
        for number in written:
            frame.slots[number] = None
    return found


def fade_slots(state, counts, forgotten, fading):
    """Keep what views show of slots that were forgotten in this collection and in earlier ones."""
    for index in counts:
        frame = state.frames[index]
        for number in list(frame.faded):
            frame.faded[number] = fading.fade_again(frame.faded[number])
    for frame, number, cell in forgotten:
        frame.faded[number] = tuple(fading.nodes_of(cell))
    state.lowest_name = fading.lowest


def root_places(state, counts):
    """Return the places of the roots: pairs of a list or dict and an index or key in it."""
    found = [(state.registers, number) for number in state.registers]
    for index, count in counts.items():
        slots = state.frames[index].slots
        found.extend([(slots, number) for number in range(count) if slots[number] is not None])
    for choice in state.choices:
        found.extend([(choice.held, place) for place in range(len(choice.held))])
    return found


def sizes_before(kept):
    """Return the list of how many are kept before each index, and in all."""
    found = [0]
    for is_kept in kept:
        found.append(found[-1] + (1 if is_kept else 0))
    return found


def collect(state):
    """Remove all cells that are not reachable, and move the others."""
    counts, codes = slot_counts(state)
    forgotten = forget_slots(state, counts, codes)
    places = root_places(state, counts)
    old_cells, old_trail = state.heap.cells(), state.heap.trail()
    cells, roots, moves = slide(old_cells, [box[place] for box, place in places])
    for (box, place), cell in zip(places, roots):
        box[place] = cell
    fade_slots(state, counts, forgotten, Fading(old_cells, moves, state.lowest_name))
    state.heap.renew(cells, [moves[index] for index in old_trail if index in moves])
    heap_sizes = sizes_before([index in moves for index in range(len(old_cells))])
    trail_sizes = sizes_before([index in moves for index in old_trail])
    for choice in state.choices:
        choice.heap_length = heap_sizes[choice.heap_length]
        choice.trail_length = trail_sizes[choice.trail_length]
    state.protect_older()
