"""Weeks: heaps that a heavy machine leads to one state, and a late slip parts."""

from lateslips.changes import refuse_blind
from lateslips.errors import InvalidQuestion, Refused
from lateslips.machines import effect, effects, followed
from lateslips.values import are_below, is_sequence
from lateslips.verdicts import is_load


def period(machine, load):
    """The least number of times that the load's command is done ahead of its row for nothing."""
    _check(machine, load, ())
    return _period_of(machine, load)


def _check(machine, load, questions):
    """Refuses a blind machine, what is no load, and what are no choices."""
    refuse_blind(machine)
    if not is_load(machine, load):
        raise InvalidQuestion(1)
    for index, choices in enumerate(questions):
        if not is_sequence(choices) or not are_below(choices, 2):
            raise InvalidQuestion(2 + index)


def _period_of(machine, load):
    ends = effect(machine, load[0])
    done = effects(machine)[load[1]]
    many = 1
    ahead = followed(done, ends)
    while ahead != ends:
        many += 1
        ahead = followed(done, ahead)
    return many


def week_heap(machine, load, choices):
    """The heap of a week with an early or late slip for each choice, and the slips of the row."""
    _check(machine, load, (choices,))
    row, command, _, _ = load
    many = _period_of(machine, load)
    heap = []
    for week, choice in enumerate(choices):
        start = week * (many + 2)
        heap.append((start + 2 * choice, command))
        heap.extend([(start + 3 + index, command) for index in range(many - 1)])
    start = len(choices) * (many + 2)
    heap.extend([(start + index, entry) for index, entry in enumerate(row)])
    return tuple(heap)


def parting_slip(machine, load, choices, others):
    """The late slip that parts the week heaps of two choices."""
    _check(machine, load, (choices, others))
    if len(choices) != len(others):
        raise Refused(0)
    for week, (one, other) in enumerate(zip(choices, others)):
        if one != other:
            return (week * (_period_of(machine, load) + 2) + 1, load[3])
    raise Refused(0)
