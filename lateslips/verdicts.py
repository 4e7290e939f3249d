"""Blind, heavy and tray machines, and what shows which one a machine is."""

from lateslips.changes import blind_fault, is_blind, is_blind_fault
from lateslips.covers import is_cover, is_cover_where, stays_of_rows
from lateslips.divisions import clash_over, is_free_over
from lateslips.errors import Blind, Heavy
from lateslips.kernels import kernel, kernels, row_of_kernel
from lateslips.machines import end_state, is_command, is_row, is_state


def kind_of(machine):
    """The kind of the machine: "blind", "heavy" or "tray"."""
    if is_blind(machine):
        return "blind"
    if _heaviness(machine) is None:
        return "tray"
    return "heavy"


def refuse_no_tray(machine):
    """Refuses all but tray machines."""
    kind = kind_of(machine)
    if kind == "blind":
        raise Blind(0)
    if kind == "heavy":
        raise Heavy(0)


def _heaviness(machine):
    """None, or a kernel, a command that stays at it and is not free over it, and its clash (state, x)."""
    for division, command in stays_of_rows(machine):
        found = clash_over(machine, command, division)
        if found is not None:
            return (division, command) + found
    return None


def is_load(machine, value):
    """Whether any value is a load."""
    if not isinstance(value, tuple) or len(value) != 4:
        return False
    row, command, state, late = value
    if not is_row(machine, row) or not is_state(machine, state):
        return False
    if not is_command(machine, command) or not is_command(machine, late):
        return False
    if kernel(machine, row) != kernel(machine, (command,) + row):
        return False
    return end_state(machine, state, (command, late) + row) != end_state(machine, state, (late, command) + row)


def verdict(machine):
    """Some verdict of the machine."""
    found = blind_fault(machine)
    if found is not None:
        return ("blind", found)
    cover = kernels(machine)
    found = _heaviness(machine)
    if found is None:
        return ("tray", cover)
    division, command, state, late = found
    return ("heavy", (cover, (row_of_kernel(machine, division), command, state, late)))


def is_verdict(machine, value):
    """Whether any value is a verdict of the machine."""
    if not isinstance(value, tuple) or len(value) != 2:
        return False
    kind, told = value
    if kind == "blind":
        return is_blind_fault(machine, told)
    if kind == "heavy":
        return is_covered(machine, told, is_load)
    return kind == "tray" and is_cover_where(machine, told, is_free_over)


def is_covered(machine, value, is_other):
    """Whether any value is a pair of a cover and something of which `is_other` is true."""
    if not isinstance(value, tuple) or len(value) != 2:
        return False
    return is_cover(machine, value[0]) and is_other(machine, value[1])
