"""What keeps copies from merging: two pasts that show the same, while another slip tells them apart."""

from lateslips.changes import blind_fault
from lateslips.errors import Refused
from lateslips.machines import Machine, end_state, is_command, is_row, is_state


def merge_fault(machine, state):
    """None, or some (d, e, x, w): d, w and e, w lead the state to one state, d, x, w and e, x, w do not."""
    rows = _rows_from(machine, _checked_state(machine, state))
    states = sorted(rows)
    steps = [[states.index(end) for end in machine.steps[reached]] for reached in states]
    found = blind_fault(Machine(machine.commands, steps))
    if found is None:
        return None
    s, t, command, row = found
    return (rows[states[s]], rows[states[t]], command, row)


def _checked_state(machine, value):
    if not is_state(machine, value):
        raise Refused(0)
    return value


def _rows_from(machine, state):
    """A dict with a shortest row to each state to which rows lead the state."""
    rows = {state: ()}
    level = [state]
    while level:
        following = []
        for reached in level:
            for command, end in enumerate(machine.steps[reached]):
                if end not in rows:
                    rows[end] = rows[reached] + (command,)
                    following.append(end)
        level = following
    return rows


def is_merge_fault(machine, state, value):
    """Whether any value is some (d, e, x, w) as `merge_fault` tells it."""
    state = _checked_state(machine, state)
    if not isinstance(value, tuple) or len(value) != 4:
        return False
    one, other, command, row = value
    if not is_command(machine, command) or not all([is_row(machine, entry) for entry in (one, other, row)]):
        return False
    if end_state(machine, state, one + row) != end_state(machine, state, other + row):
        return False
    late = (command,) + row
    return end_state(machine, state, one + late) != end_state(machine, state, other + late)
