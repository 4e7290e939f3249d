"""How many rows have a kernel, or bring two states together."""

from lateslips.changes import refuse_blind
from lateslips.errors import InvalidQuestion
from lateslips.ladders import coefficients, number_of_kernel, roots_of, rungs_of
from lateslips.machines import is_state
from lateslips.values import is_below


def rows_with_kernel(machine, length, kernel, *, modulus=None):
    """How many rows of this length have the kernel."""
    refuse_blind(machine)
    rungs, numbers = rungs_of(machine)
    return _count(rungs, [number_of_kernel(machine, numbers, kernel, 2)], length, modulus)


def meeting_rows(machine, length, one, other, *, modulus=None):
    """How many rows of this length bring two states together."""
    refuse_blind(machine)
    if not is_state(machine, one):
        raise InvalidQuestion(2)
    if not is_state(machine, other):
        raise InvalidQuestion(3)
    rungs, numbers = rungs_of(machine)
    targets = [numbers[kernel] for kernel in numbers if kernel[one] == kernel[other]]
    return _count(rungs, targets, length, modulus)


def nth_row(machine, length, kernel, number):
    """The row with the index `number` among all rows of this length with the kernel."""
    refuse_blind(machine)
    rungs, numbers = rungs_of(machine)
    target = number_of_kernel(machine, numbers, kernel, 2)
    tables = [_start(rungs)]
    for _ in range(length):
        tables.append(_one_longer(rungs, tables[-1], None))
    if not is_below(number, tables[length][target]):
        raise InvalidQuestion(3)
    # Which kernels of the rest of the row are right for the commands told so far.
    right = [here == target for here in range(len(rungs))]
    row = []
    for left in range(length - 1, -1, -1):
        command, number, right = _next_command(rungs, tables[left], right, number)
        row.append(command)
    return tuple(row)


def _next_command(rungs, counts, right, number):
    """The command in whose share of the rows `number` lies, its index there, and what is right behind it."""
    command = 0
    share = _right_behind(rungs, right, command)
    many = _sum_of(counts, share)
    while number >= many:
        number = number - many
        command += 1
        share = _right_behind(rungs, right, command)
        many = _sum_of(counts, share)
    return command, number, share


def _right_behind(rungs, right, command):
    return [right[entry[command]] for entry in rungs]


def _sum_of(counts, share):
    return sum([many for many, wanted in zip(counts, share) if wanted])


def _start(rungs):
    """How many rows without a command have each kernel."""
    return [0] * (len(rungs) - 1) + [1]


def _one_longer(rungs, counts, modulus):
    """How many rows have each kernel, if `counts` tells it for those with one command less."""
    longer = [0] * len(rungs)
    for many, entry in zip(counts, rungs):
        if many != 0:
            for ahead in entry:
                longer[ahead] += many
    if modulus is None:
        return longer
    return [many % modulus for many in longer]


def _count(rungs, targets, length, modulus):
    """How many rows of this length have one of the kernels with these indexes."""
    if modulus is None:
        return _first_counts(rungs, targets, length + 1, None)[length]
    # A recurrence is far shorter than the ladder is wide.
    factors = coefficients(roots_of(rungs, targets))
    first = _first_counts(rungs, targets, len(factors), modulus)
    rest = _rest_of_power(factors, length, modulus)
    return sum([one * other for one, other in zip(first, rest)]) % modulus


def _first_counts(rungs, targets, many, modulus):
    """The counts for the lengths 0, 1, .., as many of them as are asked."""
    found = []
    counts = _start(rungs)
    for _ in range(many):
        found.append(sum([counts[target] for target in targets]))
        counts = _one_longer(rungs, counts, modulus)
    return found


def _rest_of_power(factors, power, modulus):
    """The rest of z ** power behind the division by z ** m - c(m - 1) z ** (m - 1) - .. - c(0).

    So the count for a length is the sum of the first m counts, times the rest.
    """
    rest = _reduced([1], factors, modulus)
    for place in range(power.bit_length() - 1, -1, -1):
        square = [0] * (2 * len(rest))
        for at, one in enumerate(rest):
            for beyond, other in enumerate(rest):
                square[at + beyond] += one * other
        # Where the next figure of the power is 1, z comes in once more.
        rest = _reduced([0] * ((power >> place) & 1) + square, factors, modulus)
    return rest


def _reduced(product, factors, modulus):
    """What is left of a product if its powers from m on are replaced, highest first."""
    product = [entry % modulus for entry in product]
    while len(product) > len(factors):
        top = product.pop()
        shift = len(product) - len(factors)
        if top != 0:
            for at, factor in enumerate(factors):
                product[shift + at] = (product[shift + at] + top * factor) % modulus
    return product
