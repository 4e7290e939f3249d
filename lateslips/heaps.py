"""Slips and heaps of them."""

from lateslips.errors import InvalidSlip, Refused
from lateslips.machines import end_state, is_command, is_state
from lateslips.values import is_ascending, is_number, is_sequence


def is_slip(machine, value):
    """Whether any value is a pair of a number and a command."""
    if not isinstance(value, tuple) or len(value) != 2:
        return False
    return is_number(value[0]) and is_command(machine, value[1])


def checked_slip(machine, value):
    """Any value, a slip, as it is."""
    if not is_slip(machine, value):
        raise InvalidSlip(0)
    return value


def checked_heap(machine, value):
    """Any value, a sequence of slips with unlike times, as a heap."""
    if not is_sequence(value):
        raise InvalidSlip(0)
    times = set()
    for index, entry in enumerate(value):
        if not is_slip(machine, entry) or entry[0] in times:
            raise InvalidSlip(index)
        times.add(entry[0])
    return tuple(sorted(value))


def is_heap(machine, value):
    """Whether any value is a heap: a list is none."""
    if not isinstance(value, tuple) or not all([is_slip(machine, entry) for entry in value]):
        return False
    return is_ascending([time for time, _ in value])


def times_meet(one, other):
    """Whether some time stands in both of two heaps."""
    times = {time for time, _ in one}
    return any([time in times for time, _ in other])


def together(one, other):
    """The slips of two heaps, each once; unlike slips have unlike times."""
    return tuple(sorted(set(one + other)))


def row_of(machine, heap):
    """The commands of the heap in the order of their times."""
    return tuple([command for _, command in checked_heap(machine, heap)])


def put_in(machine, heap, slip):
    """The heap with the slip."""
    heap = checked_heap(machine, heap)
    slip = checked_slip(machine, slip)
    if slip[0] in [time for time, _ in heap]:
        raise Refused(0)
    return tuple(sorted(heap + (slip,)))


def since(machine, heap, time):
    """The slips with a greater time."""
    return tuple([slip for slip in checked_heap(machine, heap) if slip[0] > time])


def until(machine, heap, time):
    """The slips with a lesser time."""
    return tuple([slip for slip in checked_heap(machine, heap) if slip[0] < time])


def truth(machine, state, heap):
    """Where the whole heap leads a state."""
    if not is_state(machine, state):
        raise Refused(0)
    return end_state(machine, state, row_of(machine, heap))
