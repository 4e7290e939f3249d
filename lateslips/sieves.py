"""What is left of rows and heaps if the commands that may go behind the rest are struck.

`may_go(machine, command, division)` tells whether a command may go ahead of the
rows with a kernel.
"""

from lateslips.heaps import checked_heap
from lateslips.kernels import kernel_ahead
from lateslips.ladders import rungs_of
from lateslips.machines import effects, resting


def held_indexes(machine, row, may_go):
    """The indexes of the commands of a row that may not go ahead of those that follow them."""
    each = effects(machine)
    behind = resting(machine)
    # The same kernel comes again and again while a long row is read.
    known = {}
    held = []
    for index in range(len(row) - 1, -1, -1):
        command = row[index]
        if (behind, command) not in known:
            known[(behind, command)] = may_go(machine, command, behind)
        if not known[(behind, command)]:
            held.append(index)
        behind = kernel_ahead(each[command], behind)
    return held[::-1]


def held_slips(machine, heap, may_go):
    """The slips of any value, a heap, whose command may not go ahead of the row of the newer ones."""
    heap = checked_heap(machine, heap)
    return tuple([heap[index] for index in held_indexes(machine, [command for _, command in heap], may_go)])


def longest_held(machine, may_go):
    """The first of the longest rows none of whose commands may go.

    The machine is not blind, and each command that stays at a kernel may go.
    So the ladder leads to lesser numbers, and there is a longest row.
    """
    rungs, numbers = rungs_of(machine)
    best = [None] * len(rungs)
    best[-1] = ()
    for division in sorted(numbers, reverse=True):
        row = best[numbers[division]]
        if row is not None:
            for command, ahead in enumerate(rungs[numbers[division]]):
                if not may_go(machine, command, division):
                    best[ahead] = _better(best[ahead], (command,) + row)
    longest = ()
    for row in best:
        longest = _better(row, longest)
    return longest


def _better(one, other):
    """The longer one of two rows, the first one if their lengths are equal; the first row may be None."""
    if one is None or len(one) < len(other) or (len(one) == len(other) and other < one):
        return other
    return one
