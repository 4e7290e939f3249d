"""Mended slips: what should stand if another row should have been done."""

from lateslips.apart import first_parted, pair_apart
from lateslips.errors import Refused
from lateslips.machines import checked_row, effect, is_row, is_state, resting


def mended_states(machine, now, row, other, *, since=()):
    """The states to which `other` and `since` lead those that `row` and `since` lead to `now`."""
    if not is_state(machine, now):
        raise Refused(0)
    done, wanted = _both_ends(machine, row, other, since)
    return tuple(sorted({wanted[state] for state, end in enumerate(done) if end == now}))


def can_be_mended(machine, row, other, *, since=()):
    """Whether these are at most one, whatever `now` is."""
    done, wanted = _both_ends(machine, row, other, since)
    return pair_apart(done, wanted) is None


def _both_ends(machine, row, other, behind):
    """The effects of two rows, each followed by a third one."""
    row, other = checked_row(machine, row), checked_row(machine, other)
    behind = checked_row(machine, behind)
    return effect(machine, row + behind), effect(machine, other + behind)


def may_become(machine, row, other):
    """Whether a row can be mended to the other one, whatever follows both."""
    return mending_fault(machine, row, other) is None


def mending_fault(machine, row, other):
    """None if it may, otherwise the first states and the first of the shortest rows that show why not."""
    double = (effect(machine, row), effect(machine, other))
    found = first_parted(machine, [double], resting(machine))
    if found is None:
        return None
    _, s, t, behind = found
    return (s, t, behind)


def is_mending_fault(machine, row, other, value):
    """Whether any value is a triple (s, t, since): only the row brings the two states together ahead of `since`."""
    row, other = checked_row(machine, row), checked_row(machine, other)
    if not isinstance(value, tuple) or len(value) != 3:
        return False
    s, t, behind = value
    if not is_state(machine, s) or not is_state(machine, t) or not is_row(machine, behind):
        return False
    done, wanted = _both_ends(machine, row, other, behind)
    return done[s] == done[t] and wanted[s] != wanted[t]
