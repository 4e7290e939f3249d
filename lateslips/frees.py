"""Free commands: those that may change places with every command ahead of a row."""

from lateslips.errors import Refused
from lateslips.machines import effect, is_command


def is_free(machine, command, row):
    """Whether any value, a command, is free behind the row."""
    return clash(machine, command, row) is None


def clash(machine, command, row):
    """None if the command is free behind the row, otherwise the first (state, x) from which two ways end apart."""
    if not is_command(machine, command):
        raise Refused(0)
    return _clash_ahead(machine, command, effect(machine, row))


def _clash_ahead(machine, command, ends):
    """As `clash`, for a row that has these ends."""
    for state, entry in enumerate(machine.steps):
        for x, beyond in enumerate(entry):
            if ends[machine.steps[entry[command]][x]] != ends[machine.steps[beyond][command]]:
                return (state, x)
    return None


def free_commands(machine, row):
    """All commands that are free behind the row."""
    ends = effect(machine, row)
    return tuple([command for command in range(machine.commands) if _clash_ahead(machine, command, ends) is None])
