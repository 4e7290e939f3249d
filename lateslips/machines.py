"""Machines, their rows, and where rows lead."""

from lateslips.errors import InvalidMachine, InvalidRow, Refused
from lateslips.values import are_below, is_below, is_number, is_sequence, is_tuple_below


class Machine:
    """Commands and states: `steps[state][command]` is the next state."""

    def __init__(self, commands, steps):
        if not is_number(commands) or commands == 0:
            raise InvalidMachine(0)
        if not is_sequence(steps) or len(steps) == 0:
            raise InvalidMachine(1)
        for state, entry in enumerate(steps):
            if not _is_entry(entry, commands, len(steps)):
                raise InvalidMachine(2 + state)
        self.commands = commands
        self.states = len(steps)
        self.steps = tuple([tuple(entry) for entry in steps])

    def __eq__(self, other):
        return isinstance(other, Machine) and self.commands == other.commands and self.steps == other.steps


def _is_entry(entry, commands, states):
    return is_sequence(entry) and len(entry) == commands and are_below(entry, states)


def is_state(machine, value):
    return is_below(value, machine.states)


def is_command(machine, value):
    return is_below(value, machine.commands)


def is_row(machine, value):
    """Whether any value is a row: a list is none."""
    return is_tuple_below(value, machine.commands)


def is_state_tuple(machine, value):
    """Whether any value is a tuple with a state for each state."""
    return is_tuple_below(value, machine.states) and len(value) == machine.states


def checked_row(machine, value):
    """Any value, a sequence of commands, as a row."""
    if not is_sequence(value):
        raise InvalidRow(0)
    for index, entry in enumerate(value):
        if not is_command(machine, entry):
            raise InvalidRow(index)
    return tuple(value)


def end_state(machine, state, row):
    """Where a state is led by the commands of the row, one after another."""
    if not is_state(machine, state):
        raise Refused(0)
    end = state
    for command in checked_row(machine, row):
        end = machine.steps[end][command]
    return end


def resting(machine):
    """The effect of the empty row, which is its kernel, too."""
    return tuple(range(machine.states))


def effects(machine):
    """The effect of each command."""
    return tuple([tuple([entry[command] for entry in machine.steps]) for command in range(machine.commands)])


def followed(one, other):
    """The effect of a row with the first effect, followed by one with the second."""
    return tuple([other[state] for state in one])


def effect(machine, row):
    """The states to which the row leads each state."""
    each = effects(machine)
    ends = resting(machine)
    for command in checked_row(machine, row):
        ends = followed(ends, each[command])
    return ends


def effect_of_power(machine, row, times):
    """The effect of the row, done so many times."""
    power = effect(machine, row)
    ends = resting(machine)
    left = times
    while left > 0:
        if left & 1:
            ends = followed(ends, power)
        power = followed(power, power)
        left = left >> 1
    return ends


def beside(one, other):
    """The machine of the pairs of states: each command does what it does to both."""
    if one.commands != other.commands:
        raise Refused(0)
    steps = []
    for entry in one.steps:
        for beyond in other.steps:
            steps.append([state * other.states + second for state, second in zip(entry, beyond)])
    return Machine(one.commands, steps)
