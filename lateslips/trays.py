"""Trays: the slips of a heap that must be kept."""

from lateslips.divisions import is_free_over
from lateslips.errors import Refused
from lateslips.heaps import checked_heap, put_in, times_meet
from lateslips.sieves import held_slips


def tray(machine, heap):
    """The slips of the heap whose command is not free behind the row of all newer slips."""
    return held_slips(machine, heap, is_free_over)


def thrown(machine, heap):
    """The slips of the heap that do not belong to its tray."""
    return _without(checked_heap(machine, heap), tray(machine, heap))


def _without(heap, slips):
    return tuple([slip for slip in heap if slip not in slips])


def holds_tray(machine, heap, kept):
    """Whether `kept` is enough for the heap."""
    heap = checked_heap(machine, heap)
    kept = checked_heap(machine, kept)
    return len(_without(kept, heap)) == 0 and len(_without(tray(machine, heap), kept)) == 0


def thrown_by(machine, heap, slip):
    """The slips of the tray of the heap that do not belong to the tray of the heap with the slip."""
    longer = put_in(machine, heap, slip)
    return _without(tray(machine, heap), tray(machine, longer))


def tray_of_both(machine, one, other):
    """The tray of two heaps together."""
    one = checked_heap(machine, one)
    other = checked_heap(machine, other)
    if times_meet(one, other):
        raise Refused(0)
    return tray(machine, one + other)
