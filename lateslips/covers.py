"""Covers: divisions among which those of all rows stand; what holds over each of them holds ahead of each row."""

from lateslips.kernels import climbs, is_division, is_within, kernel_ahead
from lateslips.machines import effects, resting
from lateslips.values import is_ascending


def is_cover(machine, value):
    """Whether any value is a cover."""
    if not isinstance(value, tuple) or not all([is_division(machine, entry) for entry in value]):
        return False
    divisions = set(value)
    if not is_ascending(value) or resting(machine) not in divisions:
        return False
    for done in effects(machine):
        for division in value:
            ahead = kernel_ahead(done, division)
            if ahead not in divisions or not is_within(division, ahead):
                return False
    return True


def stays_of(machine, cover):
    """The pairs (division, command) for which the division ahead by the command is the division itself."""
    each = effects(machine)
    stays = []
    for division in cover:
        for command, done in enumerate(each):
            if kernel_ahead(done, division) == division:
                stays.append((division, command))
    return stays


def stays_of_rows(machine):
    """As `stays_of`, for the kernels of all rows."""
    found = climbs(machine)
    stays = []
    for behind in found:
        stays.extend([(behind, command) for command, ahead in enumerate(found[behind]) if ahead == behind])
    return stays


def is_cover_where(machine, value, holds):
    """Whether any value is a cover over whose divisions something holds for each command that stays there."""
    if not is_cover(machine, value):
        return False
    return all([holds(machine, command, division) for division, command in stays_of(machine, value)])
