"""Changes that may come late, and the faults of those that may not."""

from lateslips.apart import first_parted
from lateslips.errors import Blind, Refused
from lateslips.machines import effect, effects, is_command, is_row, is_state, is_state_tuple, resting
from lateslips.pairs import pairs_of
from lateslips.values import is_ascending


def _checked_change(machine, value):
    if not is_state_tuple(machine, value):
        raise Refused(0)
    return value


def fault(machine, change):
    """None, or some fault of the change with a shortest row."""
    start = resting(machine)
    found = first_parted(machine, [(start, _checked_change(machine, change))], start)
    if found is None:
        return None
    _, s, t, row = found
    return (s, t, row)


def blind_fault(machine):
    """None, or some (s, t, x, w): a fault (s, t, w) of the command x, with a shortest row."""
    start = resting(machine)
    found = first_parted(machine, [(start, change) for change in effects(machine)], start)
    if found is None:
        return None
    command, s, t, row = found
    return (s, t, command, row)


def is_blind(machine):
    """Whether some command may not come late."""
    return blind_fault(machine) is not None


def refuse_blind(machine):
    if is_blind(machine):
        raise Blind(0)


def late_commands(machine):
    """The commands whose changes may come late."""
    return tuple([command for command, change in enumerate(effects(machine)) if fault(machine, change) is None])


def is_fault(machine, change, value):
    """Whether any value is a fault of the change."""
    change = _checked_change(machine, change)
    if not isinstance(value, tuple) or len(value) != 3:
        return False
    s, t, row = value
    if not is_state(machine, s) or not is_state(machine, t) or not is_row(machine, row):
        return False
    ends = effect(machine, row)
    return s < t and ends[s] == ends[t] and ends[change[s]] != ends[change[t]]


def is_blind_fault(machine, value):
    """Whether any value is some (s, t, x, w): a fault (s, t, w) of the command x."""
    if not isinstance(value, tuple) or len(value) != 4:
        return False
    s, t, command, row = value
    return is_command(machine, command) and is_fault(machine, effects(machine)[command], (s, t, row))


def guard(machine, change):
    """The guard of the change that is part of each, or None."""
    waiting = _first_fours(machine, _checked_change(machine, change))
    seen = set(waiting)
    while waiting:
        known = waiting.pop()
        for four in _next_fours(machine, known):
            if four[0] == four[1]:
                return None
            if four not in seen:
                seen.add(four)
                waiting.append(four)
    return tuple(sorted(seen))


def is_guard(machine, change, value):
    """Whether any value is a guard of the change."""
    change = _checked_change(machine, change)
    if not isinstance(value, tuple) or not all([_is_four(machine, four) for four in value]):
        return False
    if not is_ascending(value):
        return False
    asked = _first_fours(machine, change)
    for four in value:
        asked.extend(_next_fours(machine, four))
    fours = set(value)
    return all([four in fours for four in asked])


def _is_four(machine, value):
    if not isinstance(value, tuple) or len(value) != 4:
        return False
    if not all([is_state(machine, state) for state in value]):
        return False
    return value[0] != value[1] and value[2] != value[3]


def _first_fours(machine, change):
    return [(s, t, change[s], change[t]) for s, t in pairs_of(machine) if change[s] != change[t]]


def _next_fours(machine, four):
    """Where the commands that keep the last two states apart lead all four."""
    entries = [machine.steps[state] for state in four]
    return [(p, q, y, z) for p, q, y, z in zip(*entries) if y != z]
