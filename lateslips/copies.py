"""Copies of a store: standings that part from one base and take slips of their own."""

from lateslips.changes import refuse_blind
from lateslips.errors import InvalidQuestion, Refused
from lateslips.heaps import checked_heap, is_heap, put_in, times_meet, together, truth
from lateslips.machines import is_state
from lateslips.trays import tray
from lateslips.views import beginnings


def is_standing(machine, value):
    """Whether any value is a pair of a state and a heap that leads some state there."""
    if not isinstance(value, tuple) or len(value) != 2:
        return False
    now, kept = value
    if not is_state(machine, now) or not is_heap(machine, kept):
        return False
    return len(beginnings(machine, now, kept)) > 0


def refuse_base(machine, base):
    """Refuses a blind machine and a base that is no standing."""
    refuse_blind(machine)
    if not is_standing(machine, base):
        raise InvalidQuestion(1)


def refuse_copy(machine, base, standing):
    """Refuses, too, what is no standing or does not keep all that the base keeps."""
    refuse_base(machine, base)
    if not is_standing(machine, standing) or not keeps_all(base, standing):
        raise InvalidQuestion(2)


def keeps_all(base, standing):
    """Whether a standing keeps all slips that its base keeps."""
    kept = set(standing[1])
    return all([slip in kept for slip in base[1]])


def end_of_standing(machine, standing, heap):
    """Where a heap leads the beginnings of a standing.

    It holds all that the standing keeps.  In a machine that is not blind the
    slips that are put in lead no two of the beginnings apart.
    """
    now, kept = standing
    return truth(machine, beginnings(machine, now, kept)[0], heap)


def taken(machine, base, standing, slip):
    """The standing of a copy behind one more slip."""
    refuse_copy(machine, base, standing)
    return _one_more(machine, base, standing, slip)


def _one_more(machine, base, standing, slip):
    heap = put_in(machine, standing[1], slip)
    return (end_of_standing(machine, standing, heap), together(base[1], tray(machine, heap)))


def taken_all(machine, base, slips):
    """The standing of a copy behind all slips of a sequence, one after another."""
    refuse_base(machine, base)
    if times_meet(base[1], checked_heap(machine, slips)):
        raise Refused(0)
    standing = base
    for slip in slips:
        standing = _one_more(machine, base, standing, slip)
    return standing
