"""Labels: a store that shows a number for its state, perhaps one number for several states."""

from lateslips.apart import first_parted
from lateslips.errors import Refused
from lateslips.kernels import is_within
from lateslips.machines import effect, effects, is_command, is_row, is_state, resting
from lateslips.values import is_number, is_sequence
from lateslips.wishes import finest_face


class Labels:
    """For each state of a machine the number that shows; called with a state, it tells that number."""

    def __init__(self, machine, numbers):
        if not is_sequence(numbers) or len(numbers) != machine.states:
            raise Refused(0)
        if not all([is_number(entry) for entry in numbers]):
            raise Refused(0)
        self.machine = machine
        self.numbers = tuple(numbers)

    def __eq__(self, other):
        return isinstance(other, Labels) and self.machine == other.machine and self.numbers == other.numbers

    def __call__(self, state):
        if not is_state(self.machine, state):
            raise Refused(0)
        return self.numbers[state]


def label_fault(labels):
    """None, or some (s, t, x, w): w leads s and t to states with one label; x, w does not."""
    machine = labels.machine
    start = resting(machine)
    found = first_parted(machine, [(start, change) for change in effects(machine)], labels.numbers)
    if found is None:
        return None
    command, s, t, row = found
    return (s, t, command, row)


def is_label_fault(labels, value):
    """Whether any value is some (s, t, x, w) as `label_fault` tells it."""
    machine = labels.machine
    if not isinstance(value, tuple) or len(value) != 4:
        return False
    s, t, command, row = value
    if not is_state(machine, s) or not is_state(machine, t):
        return False
    if not is_command(machine, command) or not is_row(machine, row):
        return False
    shown = [labels.numbers[end] for end in effect(machine, row)]
    behind = [shown[entry[command]] for entry in machine.steps]
    return shown[s] == shown[t] and behind[s] != behind[t]


def can_show(labels, wish="late"):
    """Whether states in one class of the finest face for the wish always have the same label."""
    return is_within(finest_face(labels.machine, wish), labels.numbers)
