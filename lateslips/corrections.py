"""Corrections of single slips, and those that are right whatever follows."""

from lateslips.errors import Refused
from lateslips.heaps import checked_heap, checked_slip
from lateslips.mending import may_become
from lateslips.values import is_number


def exchange(machine, heap, slip):
    """The heap in which the slip with the time of this one is replaced by it."""
    heap = checked_heap(machine, heap)
    slip = checked_slip(machine, slip)
    place = _place_of(heap, slip[0])
    return heap[:place] + (slip,) + heap[place + 1:]


def swap(machine, heap, time):
    """The heap in which the slip with this time and the next later one have each other's commands."""
    heap = checked_heap(machine, heap)
    place = _place_of(heap, time)
    if place == len(heap) - 1:
        raise Refused(0)
    (earlier, one), (later, other) = heap[place:place + 2]
    return heap[:place] + ((earlier, other), (later, one)) + heap[place + 2:]


def strike(machine, heap, time):
    """The heap without the slip with this time."""
    heap = checked_heap(machine, heap)
    place = _place_of(heap, time)
    return heap[:place] + heap[place + 1:]


def _place_of(heap, time):
    """The index of the slip with any value as its time."""
    times = [entry for entry, _ in heap]
    if not is_number(time) or time not in times:
        raise Refused(0)
    return times.index(time)


def right_exchanges(machine):
    """The pairs of unlike commands of which the first may become the second."""
    return tuple([(a, b) for a, b in _unlike_commands(machine) if may_become(machine, (a,), (b,))])


def right_swaps(machine):
    """The pairs (a, b) of unlike commands for which the row (a, b) may become (b, a)."""
    return tuple([(a, b) for a, b in _unlike_commands(machine) if may_become(machine, (a, b), (b, a))])


def right_strikes(machine):
    """The commands that may become the empty row."""
    return tuple([command for command in range(machine.commands) if may_become(machine, (command,), ())])


def _unlike_commands(machine):
    each = range(machine.commands)
    return [(a, b) for a in each for b in each if a != b]
