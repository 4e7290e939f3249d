"""Fillings of heaps, and with which of them two heaps lead a state to unlike states."""

from lateslips.errors import Refused
from lateslips.heaps import checked_heap
from lateslips.machines import is_row, is_state
from lateslips.values import is_ascending, is_number


def is_filling(machine, value):
    """Whether any value is a filling: a list is none."""
    if not isinstance(value, tuple) or not all([_is_filled_row(machine, entry) for entry in value]):
        return False
    return is_ascending([time for time, _ in value])


def _is_filled_row(machine, value):
    if not isinstance(value, tuple) or len(value) != 2:
        return False
    return is_number(value[0]) and is_row(machine, value[1])


def checked_heaps(machine, state, one, other):
    """Two heaps, any values, to which any value is passed as a state."""
    if not is_state(machine, state):
        raise Refused(0)
    return checked_heap(machine, one), checked_heap(machine, other)


def commands_of_both(one, other):
    """For each time that stands in two heaps, ascending, the commands of both as rows, empty for none."""
    first, second = dict(one), dict(other)
    turns = []
    for time in sorted(set(list(first) + list(second))):
        turns.append((time, _row_at(first, time), _row_at(second, time)))
    return turns


def _row_at(commands, time):
    if time in commands:
        return (commands[time],)
    return ()


def parting_way(machine, state, turns):
    """None, or for each turn a row and a choice with which two heaps lead the state to unlike states.

    A turn is a sequence of choices: pairs of the rows that the first and the
    second heap do, behind some row that both do.
    """
    begun = [{(state, state): None}]
    filled = []
    for choices in turns:
        filled.append(_with_rows(machine, begun[-1]))
        begun.append(_with_choices(machine, filled[-1], choices))
    for one, other in begun[-1]:
        if one != other:
            return _way_told(begun, filled, (one, other))
    return None


def _with_rows(machine, begun):
    """The pairs to which some row leads those that were begun with: each with how the shortest row came there."""
    came = {pair: None for pair in begun}
    level = list(came)
    while level:
        following = []
        for pair in level:
            one, other = pair
            for command, ends in enumerate(zip(machine.steps[one], machine.steps[other])):
                if ends not in came:
                    came[ends] = (command, pair)
                    following.append(ends)
        level = following
    return came


def _with_choices(machine, filled, choices):
    """The pairs to which some choice leads those: each with how it came there."""
    came = {}
    for pair in filled:
        for choice in choices:
            ends = (_led(machine, pair[0], choice[0]), _led(machine, pair[1], choice[1]))
            if ends not in came:
                came[ends] = (choice, pair)
    return came


def _led(machine, state, row):
    for command in row:
        state = machine.steps[state][command]
    return state


def _way_told(begun, filled, pair):
    way = []
    for turn in range(len(filled) - 1, -1, -1):
        choice, pair = begun[turn + 1][pair]
        row = []
        while filled[turn][pair] is not None:
            command, pair = filled[turn][pair]
            row.append(command)
        way.append((tuple(row[::-1]), choice))
    return way[::-1]


def filling_of(times, rows):
    """The filling with these rows at these times; an empty row is left out."""
    return tuple([(time, row) for time, row in zip(times, rows) if len(row) > 0])
