"""Stories: slips as they come, perhaps late, perhaps again."""

from lateslips.errors import InvalidSlip, Refused
from lateslips.harmless import firm_tray
from lateslips.heaps import checked_heap, checked_slip, is_slip, put_in
from lateslips.late import redone
from lateslips.machines import is_state
from lateslips.values import is_sequence


def heap_of_story(machine, story):
    """The heap of the slips of any value, a story, each once."""
    if not is_sequence(story):
        raise InvalidSlip(0)
    commands = {}
    for index, entry in enumerate(story):
        if not is_slip(machine, entry) or commands.setdefault(entry[0], entry[1]) != entry[1]:
            raise InvalidSlip(index)
    return tuple(sorted(commands.items()))


def receive_again(machine, now, kept, slip):
    """What stands with a slip that may have come before, and what is kept then."""
    if not is_state(machine, now):
        raise Refused(0)
    return _with_slip(machine, now, checked_heap(machine, kept), checked_slip(machine, slip))


def _with_slip(machine, now, kept, slip):
    if slip in kept:
        return (now, kept)
    end = redone(machine, now, kept, (slip,))
    return (end, firm_tray(machine, put_in(machine, kept, slip)))


def tell_story(machine, state, story):
    """What stands, and what is kept, when the slips of a story were received one after another."""
    if not is_state(machine, state):
        raise Refused(0)
    heap_of_story(machine, story)
    now, kept = state, ()
    for slip in story:
        now, kept = _with_slip(machine, now, kept, slip)
    return (now, kept)
