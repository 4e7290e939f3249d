"""Harmless commands: those that may change places with all ahead of a row, and may come twice."""

from lateslips.divisions import is_harmless_over
from lateslips.errors import Refused
from lateslips.kernels import kernel
from lateslips.machines import is_command
from lateslips.sieves import held_slips


def is_harmless(machine, command, row):
    """Whether any value, a command, is harmless behind the row."""
    if not is_command(machine, command):
        raise Refused(0)
    return is_harmless_over(machine, command, kernel(machine, row))


def firm_tray(machine, heap):
    """The slips of the heap whose command is not harmless behind the row of all newer slips."""
    return held_slips(machine, heap, is_harmless_over)
