"""Faces: what a store may show instead of its state, so that each command still leads from one to one."""

from lateslips.divisions import machine_of_classes
from lateslips.errors import InvalidQuestion, Refused
from lateslips.kernels import is_division, kernel_of
from lateslips.machines import is_state, resting
from lateslips.values import is_sequence


def is_face(machine, value):
    """Whether any value is a face."""
    if not is_division(machine, value):
        return False
    for state, entry in enumerate(machine.steps):
        least = machine.steps[value[state]]
        if any([value[end] != value[other] for end, other in zip(entry, least)]):
            return False
    return True


def face_machine(machine, face):
    """The machine of the classes of any value, a face."""
    _refuse_no_face(machine, face, 0)
    return machine_of_classes(machine, face)


def _refuse_no_face(machine, value, at):
    if not is_face(machine, value):
        raise Refused(at)


def closed_face(machine, pairs):
    """The face that lies within all in which the states of each pair, any value, are in one class."""
    if not is_sequence(pairs):
        raise InvalidQuestion(0)
    for index, entry in enumerate(pairs):
        if not _is_pair(machine, entry):
            raise InvalidQuestion(index)
    return wider_face(machine, resting(machine), pairs)


def _is_pair(machine, value):
    return isinstance(value, tuple) and len(value) == 2 and all([is_state(machine, state) for state in value])


def wider_face(machine, face, pairs):
    """The least face that a face lies within and in which the states of each pair are in one class, too."""
    waiting = list(pairs)
    labels = face
    while waiting:
        s, t = waiting.pop()
        if labels[s] != labels[t]:
            labels = tuple([labels[s] if label == labels[t] else label for label in labels])
            waiting.extend(list(zip(machine.steps[s], machine.steps[t])))
    return kernel_of(labels)


def common_face(machine, one, other):
    """The face in which states are in one class if they are so in both of two, any values."""
    _refuse_no_face(machine, one, 0)
    _refuse_no_face(machine, other, 1)
    return kernel_of(list(zip(one, other)))
