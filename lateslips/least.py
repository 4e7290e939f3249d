"""Least rows that bring two states together."""

from lateslips.changes import refuse_blind
from lateslips.errors import InvalidQuestion
from lateslips.few import commands_at, greatest_of_sighted, is_index_tuple, kept_commands, most_kept
from lateslips.kernels import kernel_ahead
from lateslips.machines import checked_row, effects, end_state, is_state, resting


def _check(machine, one, other):
    refuse_blind(machine)
    if not is_state(machine, one):
        raise InvalidQuestion(1)
    if not is_state(machine, other):
        raise InvalidQuestion(2)


def least_rows(machine, one, other):
    """All least rows of two states."""
    _check(machine, one, other)
    greatest = greatest_of_sighted(machine)
    if greatest[one] != greatest[other]:
        return ()
    each = effects(machine)
    found = []
    waiting = [((), resting(machine))]
    while waiting:
        row, behind = waiting.pop()
        if behind[one] != behind[other]:
            waiting.extend(_one_longer(each, row, behind))
        elif _is_least(machine, one, other, row):
            found.append(row)
    return tuple(sorted(found))


def _one_longer(each, row, behind):
    """The row with each command ahead of it that changes its kernel: another one could be struck again."""
    longer = []
    for command, done in enumerate(each):
        ahead = kernel_ahead(done, behind)
        if ahead != behind:
            longer.append(((command,) + row, ahead))
    return longer


def _meet(machine, one, other, row):
    return end_state(machine, one, row) == end_state(machine, other, row)


def _is_least(machine, one, other, row):
    """Whether the row brings the two together, and with one command less does not.

    In a machine that is not blind no part of it does then.
    """
    if not _meet(machine, one, other, row):
        return False
    return not any([_meet(machine, one, other, row[:at] + row[at + 1:]) for at in range(len(row))])


def meeting(machine, one, other, row):
    """None, or some ascending indexes of the row whose commands are a least row of the two states."""
    _check(machine, one, other)
    row = checked_row(machine, row)
    if not _meet(machine, one, other, row):
        return None
    kept = kept_commands(machine, row)
    for index in list(kept):
        fewer = tuple([at for at in kept if at != index])
        if _meet(machine, one, other, commands_at(row, fewer)):
            kept = fewer
    return kept


def is_meeting(machine, one, other, row, value):
    """Whether any value is a tuple of ascending indexes whose commands are a least row of the two states."""
    _check(machine, one, other)
    row = checked_row(machine, row)
    if not is_index_tuple(row, value) or len(value) > most_kept(machine):
        return False
    return _is_least(machine, one, other, commands_at(row, value))
