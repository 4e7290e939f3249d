"""What stands now and the slips since: which beginnings, which answers."""

from lateslips.errors import Blind, Refused
from lateslips.heaps import put_in, row_of
from lateslips.machines import effect, is_state
from lateslips.values import is_sequence


def beginnings(machine, now, heap):
    """The states that the heap leads to `now`."""
    if not is_state(machine, now):
        raise Refused(0)
    ends = effect(machine, row_of(machine, heap))
    return tuple([state for state, end in enumerate(ends) if end == now])


def answers(machine, now, heap, slip, *, among=None):
    """The states to which the heap with the slip leads the beginnings, each once."""
    begun = beginnings(machine, now, heap)
    ends = effect(machine, row_of(machine, put_in(machine, heap, slip)))
    if among is not None:
        if not _are_states(machine, among):
            raise Refused(1)
        begun = tuple([state for state in begun if state in among])
    return tuple(sorted({ends[state] for state in begun}))


def _are_states(machine, value):
    return is_sequence(value) and all([is_state(machine, entry) for entry in value])


def told(machine, now, heap, slip, *, among=None):
    """The only answer."""
    found = answers(machine, now, heap, slip, among=among)
    if len(found) == 0:
        raise Refused(2)
    if len(found) > 1:
        raise Blind(len(found))
    return found[0]
