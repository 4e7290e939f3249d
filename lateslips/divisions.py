"""What a command does over a division of the states into classes.

What holds over the kernel of a row holds ahead of the row: there nothing matters
but which states the row leads to the same state.
"""

from lateslips.machines import Machine


def least_states(division):
    """The least state of each class."""
    return [state for state, least in enumerate(division) if state == least]


def machine_of_classes(machine, division):
    """The machine whose states are the classes, numbered in the order of their least states.

    Each command leads all states of one class into one class.
    """
    leasts = least_states(division)
    steps = []
    for state in leasts:
        steps.append([leasts.index(division[end]) for end in machine.steps[state]])
    return Machine(machine.commands, steps)


def clash_over(machine, command, classes):
    """The first (state, x) from which the command and x lead into unlike classes in the two orders, or None.

    `classes` tells a label for each state.
    """
    for state, entry in enumerate(machine.steps):
        for x, beyond in enumerate(entry):
            if classes[machine.steps[entry[command]][x]] != classes[machine.steps[beyond][command]]:
                return (state, x)
    return None


def is_free_over(machine, command, division):
    """Whether the command may change places with each one."""
    return clash_over(machine, command, division) is None


def turned_over(machine, command, division):
    """The first state that the command leads out of its class, or None."""
    for state, entry in enumerate(machine.steps):
        if division[entry[command]] != division[state]:
            return state
    return None


def is_idle_over(machine, command, division):
    """Whether the command leads each state into its own class."""
    return turned_over(machine, command, division) is None


def is_harmless_over(machine, command, division):
    """Whether the command is free and, done twice, does what it does once."""
    once = [entry[command] for entry in machine.steps]
    twice = [machine.steps[state][command] for state in once]
    if any([division[one] != division[other] for one, other in zip(once, twice)]):
        return False
    return is_free_over(machine, command, division)
