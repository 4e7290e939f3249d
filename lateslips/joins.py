"""Steps: which states must be in one class of each face whose machine fulfils a wish.

A step is a tuple (s, t, u, v) of two states and two rows.  Some are due only over
a face in which u leads s and t into one class: there v must do so, too.  Others
are about one state, which u and v must lead into one class.
"""

from lateslips.apart import first_parted
from lateslips.faces import wider_face
from lateslips.machines import effect, end_state, resting


def _beginnings(machine, wish):
    """The pairs (p, q) such that, with a row w, u is p, w and v is q, w in a step of the first form."""
    each = range(machine.commands)
    if wish in ("late", "tray"):
        return [((), (a,)) for a in each]
    if wish == "swapped":
        return [((a, b), (b, a)) for a in each for b in each]
    if wish == "exchanged":
        return [((a,), (b,)) for a in each for b in each]
    if wish == "struck":
        return [((a,), ()) for a in each]
    return []


def _turned_rows(machine, wish):
    """The pairs (u, v) of a step of the second form."""
    each = range(machine.commands)
    if wish == "free":
        return [((a, b), (b, a)) for a in each for b in each]
    if wish == "tray":
        return [((a, b) + (a,) * machine.states, (b, a) + (a,) * machine.states) for a in each for b in each]
    return []


def joined_by(machine, wish, face, step):
    """The pair of states that a step joins, None if it is not due over the face."""
    s, t, u, v = step
    if s == t and (u, v) in _turned_rows(machine, wish):
        return (end_state(machine, s, u), end_state(machine, s, v))
    if not any([_are_begun(u, v, p, q) for p, q in _beginnings(machine, wish)]):
        return None
    if face[end_state(machine, s, u)] != face[end_state(machine, t, u)]:
        return None
    return (end_state(machine, s, v), end_state(machine, t, v))


def _are_begun(u, v, p, q):
    return u[:len(p)] == p and v[:len(q)] == q and u[len(p):] == v[len(q):]


def closing_steps(machine, wish):
    """Steps that join states, as many as there are to join, each one due over the face of those before it."""
    face = resting(machine)
    steps = []
    for u, v in _turned_rows(machine, wish):
        for state in range(machine.states):
            pair = (end_state(machine, state, u), end_state(machine, state, v))
            if face[pair[0]] != face[pair[1]]:
                face = wider_face(machine, face, [pair])
                steps.append((state, state, u, v))
    step = _next_step(machine, wish, face)
    while step is not None:
        face = wider_face(machine, face, [joined_by(machine, wish, face, step)])
        steps.append(step)
        step = _next_step(machine, wish, face)
    return steps


def _next_step(machine, wish, face):
    """A step of the first form that is due over the face and joins states of unlike classes, or None."""
    rows = _beginnings(machine, wish)
    found = first_parted(machine, [(effect(machine, p), effect(machine, q)) for p, q in rows], face)
    if found is None:
        return None
    index, s, t, row = found
    return (s, t, rows[index][0] + row, rows[index][1] + row)


def face_of_steps(machine, wish, steps):
    """The face that is closed under what the steps join, None if some step is not due over that of those before it."""
    face = resting(machine)
    for step in steps:
        pair = joined_by(machine, wish, face, step)
        if pair is None:
            return None
        face = wider_face(machine, face, [pair])
    return face
