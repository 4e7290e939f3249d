"""Notes of the state at the moment where a late slip belongs."""

from lateslips.machines import effects
from lateslips.pairs import MET, pair_numbers, pair_steps, pairs_of
from lateslips.values import is_number


def fault_pairs(machine):
    """The pairs (s, t) that some command's change has a fault (s, t, w) with."""
    parting = _parting(machine)
    numbers = pair_numbers(machine)
    each = effects(machine)
    found = []
    for number, (s, t) in enumerate(pairs_of(machine)):
        if any([(number, numbers[change[s]][change[t]]) in parting for change in each]):
            found.append((s, t))
    return tuple(found)


def _parting(machine):
    """A dict of those (first, second) for which some row brings the first pair together, not the second."""
    found, back = _parting_at_once(pair_steps(machine))
    waiting = list(found)
    while waiting:
        node = waiting.pop()
        for ahead in back.get(node, []):
            if ahead not in found:
                found[ahead] = True
                waiting.append(ahead)
    return found


def _parting_at_once(steps):
    """Those for which one command does so; and for each other one, from which a command leads to it."""
    found = {}
    back = {}
    for first, entry in enumerate(steps):
        for second, beyond in enumerate(steps):
            for one, other in zip(entry, beyond):
                if one == MET and other != MET:
                    found[(first, second)] = True
                elif other not in (MET, one):
                    back.setdefault((one, other), []).append((first, second))
    return found, back


def is_note(machine, value):
    """Whether any value is a note."""
    if not isinstance(value, tuple) or len(value) != machine.states:
        return False
    if not all([is_number(entry) for entry in value]):
        return False
    return all([value[s] != value[t] for s, t in fault_pairs(machine)])


def least_note(machine):
    """The first of the notes with as few unlike numbers as any has."""
    lesser = [[] for _ in range(machine.states)]
    for s, t in fault_pairs(machine):
        lesser[t].append(s)
    many = 1
    note = _first_note(lesser, many, ())
    while note is None:
        many += 1
        note = _first_note(lesser, many, ())
    return note


def _first_note(lesser, many, begun):
    """The first note that begins so and has numbers less than `many`, None if there is none."""
    if len(begun) == len(lesser):
        return begun
    taken = [begun[state] for state in lesser[len(begun)]]
    # Of the numbers that are not used yet the least one does whatever another one would do.
    for number in range(min(many, max(begun, default=-1) + 2)):
        if number not in taken:
            note = _first_note(lesser, many, begun + (number,))
            if note is not None:
                return note
    return None
