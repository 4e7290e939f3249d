"""A few commands of a row that have the kernel of the whole row."""

from lateslips.changes import refuse_blind
from lateslips.divisions import least_states, machine_of_classes
from lateslips.kernels import kernel, kernel_ahead
from lateslips.machines import checked_row, effects, resting
from lateslips.values import is_ascending, is_tuple_below


def is_part(one, other):
    """Whether a sequence of commands is a part of another one."""
    at = 0
    for command in other:
        if at < len(one) and one[at] == command:
            at += 1
    return at == len(one)


def commands_at(row, indexes):
    """The row of the commands at these indexes alone."""
    return tuple([row[index] for index in indexes])


def is_index_tuple(row, value):
    """Whether any value is a tuple of ascending indexes of the row."""
    return is_tuple_below(value, len(row)) and is_ascending(value)


def kept_commands(machine, row):
    """The indexes of the commands for which the row from them on has another kernel than behind them."""
    refuse_blind(machine)
    indexes, _ = _kept_ahead(effects(machine), checked_row(machine, row), resting(machine))
    return indexes


def kept_of_power(machine, row, times):
    """The indexes of the kept commands of the row done so many times."""
    refuse_blind(machine)
    row = checked_row(machine, row)
    each = effects(machine)
    behind = resting(machine)
    kept = ()
    for copy in range(times - 1, -1, -1):
        indexes, behind = _kept_ahead(each, row, behind)
        # A copy that changes no kernel leaves all as it was for those ahead of it.
        if len(indexes) == 0:
            break
        kept = tuple([copy * len(row) + index for index in indexes]) + kept
    return kept


def _kept_ahead(each, row, behind):
    """The kept indexes of a row ahead of one with the kernel `behind`, and the kernel of both."""
    kept = []
    for index in range(len(row) - 1, -1, -1):
        ahead = kernel_ahead(each[row[index]], behind)
        if ahead != behind:
            kept.append(index)
            behind = ahead
    return tuple(kept[::-1]), behind


def is_enough(machine, row, value):
    """Whether any value tells a few commands of the row that have the kernel of the whole row."""
    refuse_blind(machine)
    row = checked_row(machine, row)
    if not is_index_tuple(row, value) or len(value) > most_kept(machine):
        return False
    return kernel(machine, commands_at(row, value)) == kernel(machine, row)


def greatest_kernel(machine):
    """The kernel that brings together all that any row does."""
    refuse_blind(machine)
    return greatest_of_sighted(machine)


def greatest_of_sighted(machine):
    """The greatest kernel of a machine that is known not to be blind."""
    each = effects(machine)
    last = ()
    greatest = resting(machine)
    # In such a machine a kernel only grows, whatever comes ahead of the row; so
    # it is the greatest one if no command changes it.
    while greatest != last:
        last = greatest
        for done in each:
            greatest = kernel_ahead(done, greatest)
    return greatest


def fewest_classes(machine):
    """The number of classes of the greatest kernel."""
    return len(least_states(greatest_kernel(machine)))


def most_kept(machine):
    """The number of states less that of the classes, for a machine that is known not to be blind."""
    return machine.states - len(least_states(greatest_of_sighted(machine)))


def settled(machine):
    """The machine whose states are the classes of the greatest kernel."""
    return machine_of_classes(machine, greatest_kernel(machine))
