"""Late commands whose moments are not known: where they may lead."""

from lateslips.changes import refuse_blind
from lateslips.errors import InvalidQuestion, Refused
from lateslips.heaps import checked_heap, row_of
from lateslips.machines import end_state, is_command, is_state
from lateslips.values import is_below, is_number, is_sequence
from lateslips.views import beginnings

MOST_COMMANDS = 6


def moment_ends(machine, now, kept, command):
    """For each number j of kept slips where the command, done behind j of them, should lead."""
    heap = _checked_kept(machine, now, kept)
    _refuse_no_command(machine, command)
    return _ends_behind_each(machine, now, heap, command)


def possible_ends(machine, now, kept, command, *, first=0, last=None):
    """Those of `moment_ends` for which the command may have come at some time from `first` to `last`."""
    heap = _checked_kept(machine, now, kept)
    _refuse_no_command(machine, command)
    if not is_number(first):
        raise InvalidQuestion(4)
    if last is not None and not is_number(last):
        raise InvalidQuestion(5)
    ends = _ends_behind_each(machine, now, heap, command)
    return tuple(sorted({ends[many] for many in _numbers_at(heap, first, last)}))


def _checked_kept(machine, now, kept):
    """The kept heap, if what goes ahead of it is not refused."""
    refuse_blind(machine)
    if not is_state(machine, now):
        raise InvalidQuestion(1)
    return checked_heap(machine, kept)


def _refuse_no_command(machine, command):
    if not is_command(machine, command):
        raise InvalidQuestion(3)


def _way_back(machine, now, heap):
    found = beginnings(machine, now, heap)
    if len(found) == 0:
        raise Refused(2)
    # In a machine that is not blind each other one would end alike.
    return found[0]


def _ends_behind_each(machine, now, heap, command):
    row = row_of(machine, heap)
    state = _way_back(machine, now, heap)
    ends = []
    for many in range(len(row) + 1):
        ends.append(end_state(machine, state, row[:many] + (command,) + row[many:]))
    return tuple(ends)


def _numbers_at(heap, first, last):
    """The numbers of kept slips with a lesser time, for the times from `first` to `last` at which none is kept."""
    times = [time for time, _ in heap]
    if last is None:
        # Behind all times that are kept one time does what each later one does.
        last = max([first] + times) + 1
    lowest = [first] + [max(time + 1, first) for time in times]
    highest = [min(time - 1, last) for time in times] + [last]
    return [many for many, (low, high) in enumerate(zip(lowest, highest)) if low <= high]


def placed_end(machine, now, kept, commands, placing):
    """Where the way back is led with the commands placed so."""
    heap = _checked_kept(machine, now, kept)
    _refuse_no_commands(machine, commands)
    if not _is_placing(placing, len(heap), len(commands)):
        raise InvalidQuestion(4)
    row = row_of(machine, heap)
    state = _way_back(machine, now, heap)
    done = 0
    for many, index in placing:
        state = end_state(machine, state, row[done:many] + (commands[index],))
        done = many
    return end_state(machine, state, row[done:])


def _refuse_no_commands(machine, commands):
    if not is_sequence(commands) or len(commands) > MOST_COMMANDS:
        raise InvalidQuestion(3)
    for command in commands:
        _refuse_no_command(machine, command)


def _is_placing(value, slips, commands):
    """Whether any value is a placing of so many commands ahead of or behind so many kept slips."""
    if not isinstance(value, tuple) or not all([_is_place(entry, slips, commands) for entry in value]):
        return False
    if sorted([index for _, index in value]) != list(range(commands)):
        return False
    return all([one[0] <= other[0] for one, other in zip(value, value[1:])])


def _is_place(value, slips, commands):
    if not isinstance(value, tuple) or len(value) != 2:
        return False
    return is_below(value[0], slips + 1) and is_below(value[1], commands)


def ends_of_all(machine, now, kept, commands):
    """The ends of all placings of the commands."""
    heap = _checked_kept(machine, now, kept)
    _refuse_no_commands(machine, commands)
    came = _ways(machine, _way_back(machine, now, heap), row_of(machine, heap), commands)
    return tuple([state for state in range(machine.states) if _last_node(heap, commands, state) in came])


def placing_to(machine, now, kept, commands, end):
    """None, or some placing of the commands with this end."""
    heap = _checked_kept(machine, now, kept)
    _refuse_no_commands(machine, commands)
    if not is_state(machine, end):
        raise InvalidQuestion(4)
    came = _ways(machine, _way_back(machine, now, heap), row_of(machine, heap), commands)
    node = _last_node(heap, commands, end)
    if node not in came:
        return None
    placing = []
    while came[node] is not None:
        ahead, place = came[node]
        if place is not None:
            placing.append(place)
        node = ahead
    return tuple(placing[::-1])


def _last_node(heap, commands, state):
    return (len(heap), (1 << len(commands)) - 1, state)


def _ways(machine, state, row, commands):
    """A dict of all nodes to which placings lead: how many kept slips are done, which commands, and the state.

    The commands that are done are the bits of a number.  Each node has the one
    ahead of it and the place of a command, None if a kept slip was done.
    """
    came = {(0, 0, state): None}
    waiting = [(0, 0, state)]
    while waiting:
        node = waiting.pop()
        many, done, reached = node
        following = []
        if many < len(row):
            following.append(((many + 1, done, machine.steps[reached][row[many]]), None))
        for index, command in enumerate(commands):
            if (done >> index) & 1 == 0:
                following.append(((many, done | (1 << index), machine.steps[reached][command]), (many, index)))
        for ahead, place in following:
            if ahead not in came:
                came[ahead] = (node, place)
                waiting.append(ahead)
    return came
