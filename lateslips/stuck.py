"""Stuck rows: none of their commands may go."""

from lateslips.divisions import is_free_over
from lateslips.errors import InvalidQuestion
from lateslips.machines import checked_row
from lateslips.sieves import held_indexes, longest_held
from lateslips.values import are_below, is_sequence
from lateslips.verdicts import refuse_no_tray


def is_stuck(machine, row):
    """Whether no command of the row is free behind those that follow it."""
    row = checked_row(machine, row)
    return len(held_indexes(machine, row, is_free_over)) == len(row)


def longest_stuck(machine):
    """The first of the longest stuck rows."""
    refuse_no_tray(machine)
    return longest_held(machine, is_free_over)


def block_heap(machine, row, places, width):
    """The heap of the row with each slip at its place in a block of times of its own."""
    row = checked_row(machine, row)
    if not is_sequence(places) or len(places) != len(row) or not are_below(places, width):
        raise InvalidQuestion(2)
    return tuple([(index * width + place, command) for index, (place, command) in enumerate(zip(places, row))])
