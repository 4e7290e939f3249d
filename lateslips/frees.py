"""Free commands: those that may change places with all that is ahead of a row."""

from lateslips.divisions import clash_over, is_free_over
from lateslips.errors import Refused
from lateslips.kernels import kernel
from lateslips.machines import is_command


def is_free(machine, command, row):
    """Whether any value, a command, is free behind the row."""
    return clash(machine, command, row) is None


def clash(machine, command, row):
    """None if the command is free behind the row, otherwise the first (state, x) from which two ways end apart."""
    if not is_command(machine, command):
        raise Refused(0)
    return clash_over(machine, command, kernel(machine, row))


def free_commands(machine, row):
    """All commands that are free behind the row."""
    behind = kernel(machine, row)
    return tuple([command for command in range(machine.commands) if is_free_over(machine, command, behind)])
