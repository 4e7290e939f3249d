"""Merging: all that several copies of a store took, together."""

from lateslips.copies import is_standing, keeps_all, refuse_base, refuse_copy
from lateslips.errors import InvalidQuestion, Refused
from lateslips.heaps import row_of, times_meet, together
from lateslips.machines import effect, end_state, is_row
from lateslips.trays import tray
from lateslips.values import is_sequence
from lateslips.views import beginnings


def is_road(machine, base, standing, value):
    """Whether any value is a road of the standing from the base."""
    refuse_copy(machine, base, standing)
    return _is_road(machine, base, standing, value)


def _is_road(machine, base, standing, value):
    if not is_row(machine, value):
        return False
    ends = effect(machine, value + row_of(machine, standing[1]))
    return all([ends[state] == standing[0] for state in beginnings(machine, base[0], base[1])])


def road(machine, base, standing):
    """The first of the shortest roads of the standing from the base, or None."""
    refuse_copy(machine, base, standing)
    return _first_road(machine, base, standing)


def _first_road(machine, base, standing):
    """As `road`: the states to which a row leads the base's beginnings are looked through, the first rows first."""
    targets = beginnings(machine, standing[0], standing[1])
    start = beginnings(machine, base[0], base[1])
    rows = {start: ()}
    level = [start]
    while level:
        following = []
        for states in level:
            if all([state in targets for state in states]):
                return rows[states]
            for command in range(machine.commands):
                ahead = tuple(sorted({machine.steps[state][command] for state in states}))
                if ahead not in rows:
                    rows[ahead] = rows[states] + (command,)
                    following.append(ahead)
        level = following
    return None


def merge(machine, base, standings, *, roads=None):
    """The standing of all copies in a sequence together."""
    refuse_base(machine, base)
    if not is_sequence(standings) or not all([is_standing(machine, standing) for standing in standings]):
        raise InvalidQuestion(2)
    if roads is not None and (not is_sequence(roads) or len(roads) != len(standings)):
        raise InvalidQuestion(3)
    row, heap = (), base[1]
    for index, standing in enumerate(standings):
        if not keeps_all(base, standing) or times_meet(_own_slips(base, standing), heap):
            raise Refused(index)
        way = _way_of(machine, base, standing, roads, index)
        if way is None:
            raise Refused(index)
        row, heap = row + way, together(heap, standing[1])
    # In a machine that is not blind the heap leads all of the base's beginnings to one state.
    state = beginnings(machine, base[0], base[1])[0]
    return (end_state(machine, state, row + row_of(machine, heap)), tray(machine, heap))


def _own_slips(base, standing):
    return [slip for slip in standing[1] if slip not in base[1]]


def _way_of(machine, base, standing, roads, index):
    """The road of a copy, None if there is none."""
    if roads is None:
        return _first_road(machine, base, standing)
    if _is_road(machine, base, standing, roads[index]):
        return roads[index]
    return None
