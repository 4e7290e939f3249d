"""Heaps of slips that may come again: lots that a counting machine cannot tell apart, and heaps that are parted."""

from lateslips.errors import InvalidQuestion
from lateslips.fillings import checked_heaps, commands_of_both, filling_of, parting_way
from lateslips.lasting import is_counter
from lateslips.values import are_below, is_sequence


def lot_heap(machine, counter, times, behind):
    """The heap of the counter's command at each of the times and of its row from the time `behind` on."""
    if not is_counter(machine, counter):
        raise InvalidQuestion(1)
    if not is_sequence(times) or not are_below(times, behind) or len(set(list(times))) != len(times):
        raise InvalidQuestion(2)
    row, command, _ = counter
    slips = [(time, command) for time in sorted(times)]
    return tuple(slips + [(behind + index, entry) for index, entry in enumerate(row)])


def parting_again(machine, state, one, other):
    """None, or some pair of a filling and slips that come again with which the two heaps end unlike."""
    one, other = checked_heaps(machine, state, one, other)
    turns = commands_of_both(one, other)
    way = parting_way(machine, state, [_choices(first, second) for _, first, second in turns])
    if way is None:
        return None
    again = []
    for (time, first, second), (_, choice) in zip(turns, way):
        if choice != (first, second):
            again.append((time, choice[0][0]))
    return (filling_of([time for time, _, _ in turns], [row for row, _ in way]), tuple(again))


def _choices(first, second):
    """What two heaps may do at a time; a slip that only one of them has may come again."""
    if len(first) == len(second):
        return [(first, second)]
    return [(first, second), (first + second, first + second)]
