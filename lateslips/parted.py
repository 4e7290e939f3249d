"""Parted heaps: those that some filling leads to unlike states."""

from lateslips.errors import InvalidQuestion, Refused
from lateslips.fillings import checked_heaps, commands_of_both, filling_of, is_filling, parting_way
from lateslips.heaps import checked_heap
from lateslips.machines import end_state, is_state
from lateslips.prospects import prospects
from lateslips.values import is_sequence


def filled_end(machine, state, heap, filling):
    """Where the heap, filled with the filling, leads a state."""
    if not is_state(machine, state):
        raise Refused(0)
    heap = checked_heap(machine, heap)
    if not is_filling(machine, filling):
        raise InvalidQuestion(3)
    # A row goes ahead of a slip with the same time.
    turns = [(time, 0, row) for time, row in filling] + [(time, 1, (command,)) for time, command in heap]
    end = state
    for _, _, row in sorted(turns):
        end = end_state(machine, end, row)
    return end


def parting(machine, state, one, other):
    """None, or some filling with which the two heaps lead the state to unlike states."""
    one, other = checked_heaps(machine, state, one, other)
    turns = commands_of_both(one, other)
    way = parting_way(machine, state, [[(first, second)] for _, first, second in turns])
    if way is None:
        return None
    return filling_of([time for time, _, _ in turns], [row for row, _ in way])


def notes_needed(machine, state, heaps):
    """As many of the heaps as can be picked so that each two are parted.

    Heaps that are not parted end alike whatever fills them.  So they fall into
    lots, and one of each lot can be picked.
    """
    if not is_state(machine, state):
        raise Refused(0)
    if not is_sequence(heaps):
        raise InvalidQuestion(2)
    found = prospects(machine, [checked_heap(machine, heap) for heap in heaps])
    return len({view[state] for view in found})
