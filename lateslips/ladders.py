"""The ladder of the kernels, and the ways up to each of them."""

from lateslips.changes import refuse_blind
from lateslips.errors import InvalidQuestion
from lateslips.kernels import climbs, is_division
from lateslips.ways import coefficients, roots_of


def ladder(machine):
    """For each kernel and each command the index of the kernel of the command and a row with that kernel."""
    rungs, _ = rungs_of(machine)
    return rungs


def rungs_of(machine):
    """The ladder, and a dict with the index of each kernel.

    In a machine that is not blind the entries of a kernel only become less
    where the ladder leads.  So there the index does, too: the last kernel is
    that of the empty row, the first one the greatest.
    """
    found = climbs(machine)
    each = sorted(found)
    numbers = {kernel: number for number, kernel in enumerate(each)}
    return tuple([tuple([numbers[ahead] for ahead in found[kernel]]) for kernel in each]), numbers


def number_of_kernel(machine, numbers, value, argument):
    """The index of any value, a kernel of some row; `argument` is the place where it was passed."""
    if not is_division(machine, value) or value not in numbers:
        raise InvalidQuestion(argument)
    return numbers[value]


def count_roots(machine, kernel):
    """The pairs (x, d): at most d kernels of one way to the kernel have just x commands that stay."""
    refuse_blind(machine)
    rungs, numbers = rungs_of(machine)
    return roots_of(rungs, [number_of_kernel(machine, numbers, kernel, 1)])


def recurrence(machine, kernel):
    """The c(0), .., c(m - 1) of the recurrence of the numbers of rows with the kernel."""
    return coefficients(count_roots(machine, kernel))
