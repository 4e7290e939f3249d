"""Lasting and counting machines: whether it must be known how often a slip came."""

from lateslips.changes import blind_fault, is_blind_fault
from lateslips.covers import is_cover_where, stays_of_rows
from lateslips.divisions import is_harmless_over, is_idle_over, turned_over
from lateslips.errors import Blind, Heavy
from lateslips.kernels import kernel, kernels, row_of_kernel
from lateslips.machines import end_state, is_command, is_row, is_state, resting
from lateslips.sieves import longest_held
from lateslips.verdicts import is_covered


def _turning(machine):
    """None, or a kernel, a command that stays at it, and a state that it leads out of its class."""
    for division, command in stays_of_rows(machine):
        state = turned_over(machine, command, division)
        if state is not None:
            return (division, command, state)
    return None


def is_counter(machine, value):
    """Whether any value is a counter."""
    if not isinstance(value, tuple) or len(value) != 3:
        return False
    row, command, state = value
    if not is_row(machine, row) or not is_command(machine, command) or not is_state(machine, state):
        return False
    longer = (command,) + row
    if kernel(machine, row) != kernel(machine, longer):
        return False
    return end_state(machine, state, row) != end_state(machine, state, longer)


def again_verdict(machine):
    """Some verdict of the machine as to slips that come again."""
    found = blind_fault(machine)
    if found is not None:
        return ("blind", found)
    cover = kernels(machine)
    found = _turning(machine)
    if found is None:
        return ("lasting", cover)
    division, command, state = found
    return ("counting", (cover, (row_of_kernel(machine, division), command, state)))


def is_again_verdict(machine, value):
    """Whether any value is a verdict of the machine as to slips that come again."""
    if not isinstance(value, tuple) or len(value) != 2:
        return False
    kind, told = value
    if kind == "blind":
        return is_blind_fault(machine, told)
    if kind == "counting":
        return is_covered(machine, told, is_counter)
    return kind == "lasting" and is_cover_where(machine, told, is_idle_over)


def longest_firm(machine):
    """The first of the longest firm rows."""
    kind, _ = again_verdict(machine)
    if kind == "blind":
        raise Blind(0)
    if kind == "counting":
        raise Heavy(0)
    return longest_held(machine, is_harmless_over)


def linked(machine):
    """For each state the least one that is reached from it by steps forward or backward."""
    least = list(resting(machine))
    before = ()
    while before != tuple(least):
        before = tuple(least)
        for state, entry in enumerate(machine.steps):
            for end in entry:
                least[state] = least[end] = min(least[state], least[end])
    return before
