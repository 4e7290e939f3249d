"""How many rows have a kernel, or bring two states together."""

from lateslips.changes import refuse_blind
from lateslips.errors import InvalidQuestion
from lateslips.ladders import number_of_kernel, rungs_of
from lateslips.machines import is_state
from lateslips.values import is_below
from lateslips.ways import count_ways, empty_way, one_longer


def rows_with_kernel(machine, length, kernel, *, modulus=None):
    """How many rows of this length have the kernel."""
    refuse_blind(machine)
    rungs, numbers = rungs_of(machine)
    return count_ways(rungs, [[number_of_kernel(machine, numbers, kernel, 2)]], length, modulus)[0]


def meeting_rows(machine, length, one, other, *, modulus=None):
    """How many rows of this length bring two states together."""
    refuse_blind(machine)
    if not is_state(machine, one):
        raise InvalidQuestion(2)
    if not is_state(machine, other):
        raise InvalidQuestion(3)
    rungs, numbers = rungs_of(machine)
    targets = [numbers[kernel] for kernel in numbers if kernel[one] == kernel[other]]
    return count_ways(rungs, [targets], length, modulus)[0]


def nth_row(machine, length, kernel, number):
    """The row with the index `number` among all rows of this length with the kernel."""
    refuse_blind(machine)
    rungs, numbers = rungs_of(machine)
    target = number_of_kernel(machine, numbers, kernel, 2)
    tables = [empty_way(rungs)]
    for _ in range(length):
        tables.append(one_longer(rungs, tables[-1], None))
    if not is_below(number, tables[length][target]):
        raise InvalidQuestion(3)
    # Which kernels of the rest of the row are right for the commands told so far.
    right = [here == target for here in range(len(rungs))]
    row = []
    for left in range(length - 1, -1, -1):
        command, number, right = _next_command(rungs, tables[left], right, number)
        row.append(command)
    return tuple(row)


def _next_command(rungs, counts, right, number):
    """The command in whose share of the rows `number` lies, its index there, and what is right behind it."""
    command = 0
    share = _right_behind(rungs, right, command)
    many = _sum_of(counts, share)
    while number >= many:
        number = number - many
        command += 1
        share = _right_behind(rungs, right, command)
        many = _sum_of(counts, share)
    return command, number, share


def _right_behind(rungs, right, command):
    return [right[entry[command]] for entry in rungs]


def _sum_of(counts, share):
    return sum([many for many, wanted in zip(counts, share) if wanted])
