"""Tables of machines whose commands are all one-to-one: what late commands do, told by the row since."""

from lateslips.errors import Refused
from lateslips.kernels import kernel_of
from lateslips.machines import effect, effects, is_command, is_state, resting


def _refuse_joining(machine):
    """Refuses a machine with a command that brings two states together."""
    start = resting(machine)
    if any([kernel_of(change) != start for change in effects(machine)]):
        raise Refused(0)


def table(machine, row):
    """For each command and each state `now` where the command, ahead of the row that led to `now`, should lead."""
    _refuse_joining(machine)
    return _turned(effects(machine), effect(machine, row))


def _turned(changes, done):
    """What the changes become if something one-to-one that is done came since."""
    back = [done.index(now) for now in range(len(done))]
    return tuple([tuple([done[change[state]] for state in back]) for change in changes])


def tables(machine):
    """The tables of all rows."""
    _refuse_joining(machine)
    each = effects(machine)
    found = {each: True}
    waiting = [each]
    while waiting:
        known = waiting.pop()
        for done in each:
            longer = _turned(known, done)
            if longer not in found:
                found[longer] = True
                waiting.append(longer)
    return tuple(sorted(found))


def order_fault(machine):
    """None, or some (a, b, x, now) for which the tables of (a, b) and (b, a) tell unlike states."""
    _refuse_joining(machine)
    for a in range(machine.commands):
        for b in range(a + 1, machine.commands):
            for x, (one, other) in enumerate(zip(table(machine, (a, b)), table(machine, (b, a)))):
                if one != other:
                    return (a, b, x, _first_unlike(one, other))
    return None


def _first_unlike(one, other):
    return [now for now, state in enumerate(one) if state != other[now]][0]


def is_order_fault(machine, value):
    """Whether any value is an order fault."""
    _refuse_joining(machine)
    if not isinstance(value, tuple) or len(value) != 4:
        return False
    if not all([is_command(machine, command) for command in value[:3]]) or not is_state(machine, value[3]):
        return False
    a, b, x, now = value
    return table(machine, (a, b))[x][now] != table(machine, (b, a))[x][now]
