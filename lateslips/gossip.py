"""Gossip: copies that tell each other what they know, perhaps what the other one knows already."""

from lateslips.changes import refuse_blind
from lateslips.copies import end_of_standing, is_standing
from lateslips.divisions import is_idle_over
from lateslips.errors import InvalidQuestion, Refused
from lateslips.heaps import is_heap, together
from lateslips.kernels import kernel
from lateslips.machines import is_command
from lateslips.sieves import held_slips


def is_idle(machine, command, row):
    """Whether any value, a command, followed by the row has the effect of the row."""
    if not is_command(machine, command):
        raise Refused(0)
    return is_idle_over(machine, command, kernel(machine, row))


def gist(machine, heap):
    """The slips of the heap whose command is not idle ahead of the row of all newer slips."""
    return held_slips(machine, heap, is_idle_over)


def share(machine, one, other):
    """The standing of two copies together, whichever slips both of them know."""
    refuse_blind(machine)
    if not is_standing(machine, one):
        raise InvalidQuestion(1)
    if not is_standing(machine, other):
        raise InvalidQuestion(2)
    heap = together(one[1], other[1])
    # Unlike slips with one time would stand side by side here.
    if not is_heap(machine, heap):
        raise Refused(0)
    return (end_of_standing(machine, one, heap), gist(machine, heap))
