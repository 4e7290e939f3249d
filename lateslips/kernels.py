"""Kernels: which states a row leads to the same state."""

from lateslips.machines import effect, effects, is_state_tuple, resting


def kernel(machine, row):
    """For each state the least one that the row leads to the same state."""
    return kernel_of(effect(machine, row))


def kernel_of(labels):
    """For each index the first one with the same label."""
    first = {}
    return tuple([first.setdefault(label, index) for index, label in enumerate(labels)])


def kernel_ahead(done, behind):
    """The kernel of a row with the effect `done`, followed by one with the kernel `behind`."""
    return kernel_of([behind[state] for state in done])


def climbs(machine):
    """A dict with, for each kernel, those of each command followed by a row with it."""
    each = effects(machine)
    start = resting(machine)
    found = {}
    seen = {start}
    waiting = [start]
    while waiting:
        behind = waiting.pop()
        found[behind] = tuple([kernel_ahead(done, behind) for done in each])
        for ahead in found[behind]:
            if ahead not in seen:
                seen.add(ahead)
                waiting.append(ahead)
    return found


def kernels(machine):
    """The kernels of all rows."""
    return tuple(sorted(climbs(machine)))


def is_division(machine, value):
    """Whether any value has the form of a kernel, of some row or of none."""
    if not is_state_tuple(machine, value):
        return False
    return value == kernel_of(value)


def row_of_kernel(machine, value):
    """The first of the shortest rows with this kernel, None if any value is none of any row."""
    if not is_division(machine, value):
        return None
    each = effects(machine)
    start = resting(machine)
    came = {start: ()}
    level = [start]
    # The rows of a level are found in their order: the first command goes first,
    # then the row behind it.  So the first row found for a kernel is the first.
    while level and value not in came:
        following = []
        for command, done in enumerate(each):
            for behind in level:
                ahead = kernel_ahead(done, behind)
                if ahead not in came:
                    came[ahead] = (command, behind)
                    following.append(ahead)
        level = following
    if value not in came:
        return None
    return _row_told(came, value)


def _row_told(came, value):
    row = []
    link = came[value]
    while link:
        row.append(link[0])
        link = came[link[1]]
    return tuple(row)


def is_within(one, other):
    """Whether all that the first kernel brings together the second one does, too."""
    return all([other[state] == other[least] for state, least in enumerate(one)])
