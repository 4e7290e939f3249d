"""Rows that lead two states together behind one thing that is done, and not behind another one."""

from lateslips.machines import effect
from lateslips.pairs import MET, pair_numbers, pair_steps, pairs_of


def first_parted(machine, doubles, classes):
    """None, or (i, s, t, w): the row w parts the double i, as the states s and t show.

    `classes` tells a label for each state.  A double is a pair of tuples with a
    state for each state; a row parts it if it leads the entries of two states
    into one class in the first tuple, but not in the second.  Told are the first
    of the shortest rows that part some double, the first such double, and the
    first such states.
    """
    row = _first_row(machine, doubles, classes)
    if row is None:
        return None
    labels = [classes[end] for end in effect(machine, row)]
    found = []
    for index, (one, other) in enumerate(doubles):
        pair = pair_apart([labels[state] for state in one], [labels[state] for state in other])
        if pair is not None:
            found.append((index,) + pair + (row,))
    return found[0]


def pair_apart(one, other):
    """The first (s, t), s less than t, with one label in the first tuple and unlike ones in the second, or None."""
    for s, label in enumerate(one):
        for t in range(s + 1, len(one)):
            if one[t] == label and other[t] != other[s]:
                return (s, t)
    return None


def _first_row(machine, doubles, classes):
    """The first of the shortest rows that part some double, or None.

    A group is a row and the nodes to which it leads: a node tells the pairs of
    states behind the two tuples of a double.  The groups of a level have rows of
    one length, ascending; a node stands in the first group that has it.
    """
    steps = pair_steps(machine)
    joined = [classes[s] == classes[t] for s, t in pairs_of(machine)]
    # MET is the index of the last entry: states that met are in one class and stay so.
    steps.append([MET] * machine.commands)
    joined.append(True)
    seen = {}
    level = [((), _fresh(_starts(machine, doubles), seen))]
    while level:
        for row, nodes in level:
            if any([joined[first] and not joined[second] for first, second in nodes]):
                return row
        level = _following(steps, level, seen)
    return None


def _starts(machine, doubles):
    numbers = pair_numbers(machine)
    starts = []
    for one, other in doubles:
        starts.extend([(numbers[one[s]][one[t]], numbers[other[s]][other[t]]) for s, t in pairs_of(machine)])
    return starts


def _following(steps, level, seen):
    """The groups whose rows have one command more."""
    groups = []
    for row, nodes in level:
        for command in range(len(steps[MET])):
            ahead = _fresh([(steps[first][command], steps[second][command]) for first, second in nodes], seen)
            if ahead:
                groups.append((row + (command,), ahead))
    return groups


def _fresh(nodes, seen):
    """The nodes that were not seen and may still come apart."""
    fresh = []
    for node in nodes:
        # Two pairs that are one meet at once: nothing comes of them.
        if node[1] not in (MET, node[0]) and node not in seen:
            seen[node] = True
            fresh.append(node)
    return fresh
