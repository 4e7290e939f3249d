"""Late slips, put in by any way back."""

from lateslips.errors import Refused
from lateslips.heaps import checked_heap, put_in, row_of, times_meet
from lateslips.machines import effect, is_state
from lateslips.trays import tray
from lateslips.views import beginnings


def ends(machine, now, kept, late):
    """The states to which `kept` with all slips of `late` leads the ways back, each once."""
    return tuple(sorted(set(_ends_of_ways(machine, now, kept, late))))


def _ends_of_ways(machine, now, kept, late):
    """For each way back from `now` over `kept` where it leads with the late slips."""
    if not is_state(machine, now):
        raise Refused(0)
    kept = checked_heap(machine, kept)
    late = checked_heap(machine, late)
    if times_meet(kept, late):
        raise Refused(1)
    done = effect(machine, row_of(machine, kept + late))
    return [done[state] for state in beginnings(machine, now, kept)]


def redone(machine, now, kept, late, *, by=0):
    """Where `kept` with the late slips leads the way back with the index `by`, counted on around."""
    found = _ends_of_ways(machine, now, kept, late)
    if len(found) == 0:
        raise Refused(2)
    return found[by % len(found)]


def receive(machine, now, kept, slip, *, by=0):
    """What stands with one more slip, and the tray that is kept then."""
    told = redone(machine, now, kept, (slip,), by=by)
    return (told, tray(machine, put_in(machine, kept, slip)))


def receive_all(machine, state, slips, *, by=0):
    """What stands, and what is kept, when the slips of a sequence were received one after another."""
    if not is_state(machine, state):
        raise Refused(0)
    checked_heap(machine, slips)
    now, kept = state, ()
    for slip in slips:
        now, kept = receive(machine, now, kept, slip, by=by)
    return (now, kept)
