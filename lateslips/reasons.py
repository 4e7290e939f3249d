"""Reasons: steps that show why two states are in one class of the finest face."""

from lateslips.errors import Refused
from lateslips.joins import closing_steps, face_of_steps
from lateslips.machines import is_row, is_state
from lateslips.wishes import refuse_wish


def reasons(machine, wish, one, other):
    """None, or some reasons for two states."""
    _refuse(machine, wish, one, other)
    steps = closing_steps(machine, wish)
    for many in range(len(steps) + 1):
        face = face_of_steps(machine, wish, steps[:many])
        if face[one] == face[other]:
            return tuple(steps[:many])
    return None


def _refuse(machine, wish, one, other):
    refuse_wish(wish)
    if not is_state(machine, one):
        raise Refused(1)
    if not is_state(machine, other):
        raise Refused(2)


def is_reasons(machine, wish, one, other, value):
    """Whether any value is reasons for two states."""
    _refuse(machine, wish, one, other)
    if not isinstance(value, tuple) or not all([_is_step(machine, step) for step in value]):
        return False
    face = face_of_steps(machine, wish, value)
    return face is not None and face[one] == face[other]


def _is_step(machine, value):
    if not isinstance(value, tuple) or len(value) != 4:
        return False
    s, t, u, v = value
    return is_state(machine, s) and is_state(machine, t) and is_row(machine, u) and is_row(machine, v)
