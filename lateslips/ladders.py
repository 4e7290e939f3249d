"""The ladder of the kernels, and the ways up to each of them."""

from lateslips.changes import refuse_blind
from lateslips.errors import InvalidQuestion
from lateslips.kernels import climbs, is_division


def ladder(machine):
    """For each kernel and each command the index of the kernel of the command and a row with that kernel."""
    rungs, _ = rungs_of(machine)
    return rungs


def rungs_of(machine):
    """The ladder, and a dict with the index of each kernel.

    In a machine that is not blind the entries of a kernel only become less
    where the ladder leads.  So there the index does, too: the last kernel is
    that of the empty row, the first one the greatest.
    """
    found = climbs(machine)
    each = sorted(found)
    numbers = {kernel: number for number, kernel in enumerate(each)}
    return tuple([tuple([numbers[ahead] for ahead in found[kernel]]) for kernel in each]), numbers


def number_of_kernel(machine, numbers, value, argument):
    """The index of any value, a kernel of some row; `argument` is the place where it was passed."""
    if not is_division(machine, value) or value not in numbers:
        raise InvalidQuestion(argument)
    return numbers[value]


def count_roots(machine, kernel):
    """The pairs (x, d): at most d kernels of one way to the kernel have just x commands that stay."""
    refuse_blind(machine)
    rungs, numbers = rungs_of(machine)
    return roots_of(rungs, [number_of_kernel(machine, numbers, kernel, 1)])


def roots_of(rungs, targets):
    """As `count_roots`, with the most of the ways to any of the targets, indexes of kernels."""
    most = {}
    each = _most_of_ways(rungs)
    for target in targets:
        _raise_to(most, each[target])
    return tuple(sorted(most.items()))


def _most_of_ways(rungs):
    """For each kernel a dict with the d of each x."""
    most = [{} for _ in rungs]
    # All that lead to a kernel have greater indexes, so they are done before it.
    for number in range(len(rungs) - 1, -1, -1):
        stay = rungs[number].count(number)
        most[number][stay] = most[number].get(stay, 0) + 1
        for ahead in rungs[number]:
            if ahead != number:
                _raise_to(most[ahead], most[number])
    return most


def _raise_to(most, others):
    for key in others:
        most[key] = max(most.get(key, 0), others[key])


def recurrence(machine, kernel):
    """The c(0), .., c(m - 1) of the recurrence of the numbers of rows with the kernel."""
    return coefficients(count_roots(machine, kernel))


def coefficients(roots):
    """The c(0), .., c(m - 1) for the product of the (z - x) ** d."""
    product = [1]
    for x, d in roots:
        for _ in range(d):
            product = [one - x * other for one, other in zip([0] + product, product + [0])]
    return tuple([-entry for entry in product[:-1]])
