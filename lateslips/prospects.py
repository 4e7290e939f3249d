"""Prospects: where the rest of a heap leads a state, with each filling of the rest.

Heaps are read from their newest slips back.  The prospects of states behind the
slips read have the same number exactly if no filling leads them apart from there
on, be they of the same heap or of two.
"""

from lateslips.machines import effects, followed, resting


def prospects(machine, heaps):
    """For each of some heaps the prospects of all states."""
    each = effects(machine)
    # links[prospect][command]: the prospect of a state that was led by the command first.
    links = list(machine.steps)
    views = [resting(machine) for _ in heaps]
    for slips in _slips_back(heaps):
        cases = sorted({(command, views[index]) for index, command in slips})
        found = _ahead_of_slips(machine, links, [followed(each[command], view) for command, view in cases])
        ahead = {case: view for case, view in zip(cases, found)}
        for index, command in slips:
            views[index] = ahead[(command, views[index])]
    return views


def _slips_back(heaps):
    """For each time, the greatest first, the pairs of the index of a heap and its command at that time."""
    slips = {}
    for index, heap in enumerate(heaps):
        for time, command in heap:
            slips.setdefault(time, []).append((index, command))
    return [slips[time] for time in sorted(slips, reverse=True)]


def _ahead_of_slips(machine, links, cases):
    """The prospects ahead of a slip and of all that is filled in there; new ones are put among the links.

    A case tells for each state its prospect if the slip is done at once.  Only
    where a row that is filled in ahead of the slip can tell its place, the
    prospect is a new one.  Two new ones are the same if at once and behind each
    command they are.
    """
    nodes = [(index, state) for index, case in enumerate(cases) for state in _hindered(machine, links, case)]
    views = [list(case) for case in cases]
    labels = [(views[index][state],) for index, state in nodes]
    known = 0
    while len(set(labels)) > known:
        known = len(set(labels))
        numbers = _numbered(labels, len(links))
        for (index, state), label in zip(nodes, labels):
            views[index][state] = numbers[label]
        labels = [_label(machine, views[index], state) for index, state in nodes]
    for (index, state), label in zip(nodes, labels):
        if views[index][state] == len(links):
            links.append(label[1:])
    return [tuple(view) for view in views]


def _hindered(machine, links, case):
    """The states that some row leads otherwise ahead of the slip than behind it."""
    hindered = []
    for state, entry in enumerate(machine.steps):
        hindered.append(tuple([case[end] for end in entry]) != links[case[state]])
    last = []
    while last != hindered:
        last = hindered
        hindered = [here or any([last[end] for end in entry]) for here, entry in zip(last, machine.steps)]
    return [state for state, here in enumerate(hindered) if here]


def _numbered(labels, start):
    """A dict with a number for each label, from `start` on, in the order in which they stand first."""
    numbers = {}
    for label in labels:
        numbers.setdefault(label, start + len(numbers))
    return numbers


def _label(machine, view, state):
    return (view[state],) + tuple([view[end] for end in machine.steps[state]])
