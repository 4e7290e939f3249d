"""Grades: which corrections are right in a machine, whatever follows."""

from lateslips.apart import first_parted
from lateslips.changes import is_blind
from lateslips.kernels import is_division, kernel_ahead
from lateslips.machines import effects, followed, resting


def grade(machine):
    """The number of the greatest kind of corrections that are all right, from 0 to 4."""
    start = resting(machine)
    strikes = [(done, start) for done in effects(machine)]
    if first_parted(machine, strikes, start) is None:
        return 4
    if exchange_fault(machine) is None:
        return 3
    if swap_fault(machine) is None:
        return 2
    if is_blind(machine):
        return 0
    return 1


def length_ladder(machine):
    """None below grade 3; otherwise the kernels of the rows of 0, 1, 2, .. commands, each once."""
    if exchange_fault(machine) is not None:
        return None
    each = effects(machine)
    found = [resting(machine)]
    ahead = kernel_ahead(each[0], found[-1])
    # Rows of one length have one kernel here, and once a kernel comes twice all longer rows have it.
    while ahead != found[-1]:
        found.append(ahead)
        ahead = kernel_ahead(each[0], ahead)
    return tuple(found)


def is_length_ladder(machine, value):
    """Whether any value is the tuple that `length_ladder` tells."""
    if not isinstance(value, tuple) or not all([is_division(machine, entry) for entry in value]):
        return False
    return value == length_ladder(machine)


def exchange_fault(machine):
    """None from grade 3 on; otherwise the first (one, other, since): the two ahead of it have unlike kernels."""
    each = effects(machine)
    return _command_fault(machine, [(each[a], each[b]) for a, b in _command_pairs(machine)])


def swap_fault(machine):
    """None from grade 2 on; otherwise such a triple for the rows (one, other) and (other, one)."""
    each = effects(machine)
    doubles = []
    for a, b in _command_pairs(machine):
        doubles.append((followed(each[a], each[b]), followed(each[b], each[a])))
    return _command_fault(machine, doubles)


def _command_pairs(machine):
    return [(a, b) for a in range(machine.commands) for b in range(a + 1, machine.commands)]


def _command_fault(machine, doubles):
    """The first two commands whose double is parted, in one order or the other, by the first of the shortest rows."""
    both = []
    for one, other in doubles:
        both.extend([(one, other), (other, one)])
    found = first_parted(machine, both, resting(machine))
    if found is None:
        return None
    return _command_pairs(machine)[found[0] // 2] + (found[3],)
