"""How many rows have a tray, or trays of a size.

A row is read from its last command on.  The kernel of what was read tells which
commands are free; each other one belongs to the tray.  So what is counted are
ways along pairs of the number of commands that the tray still lacks and the
index of a kernel; both only become less.
"""

from lateslips.changes import refuse_blind
from lateslips.divisions import is_free_over
from lateslips.few import most_kept
from lateslips.ladders import rungs_of
from lateslips.machines import checked_row
from lateslips.verdicts import refuse_no_tray
from lateslips.ways import count_ways


def rows_with_tray(machine, length, row, *, modulus=None):
    """How many rows of this length have this one, any value, as their tray."""
    refuse_blind(machine)
    row = checked_row(machine, row)
    if len(row) > length:
        return 0
    links, lots = _tray_links(machine, [(command,) for command in row])
    return count_ways(links, lots[:1], length, modulus)[0]


def tray_sizes(machine, length, *, modulus=None):
    """For each size that a tray can have how many rows of this length have trays of it."""
    refuse_no_tray(machine)
    any_command = tuple(range(machine.commands))
    links, lots = _tray_links(machine, [any_command] * most_kept(machine))
    return tuple(count_ways(links, lots[::-1], length, modulus))


def _tray_links(machine, asked):
    """The links of the pairs, by their numbers, and for each number of commands that are lacking its pairs.

    `asked` tells for each place of the tray which commands may stand there.
    """
    rungs, numbers = rungs_of(machine)
    steps = [_steps_read(machine, division, rungs[numbers[division]]) for division in sorted(numbers)]
    reached = {}
    waiting = [(len(asked), len(rungs) - 1)]
    while waiting:
        lacking, here = waiting.pop()
        if (lacking, here) not in reached:
            reached[(lacking, here)] = _pairs_ahead(steps[here], asked, lacking)
            waiting.extend(reached[(lacking, here)])
    pairs = sorted(reached)
    places = {pair: place for place, pair in enumerate(pairs)}
    lots = [[] for _ in range(len(asked) + 1)]
    for place, pair in enumerate(pairs):
        lots[pair[0]].append(place)
    return [[places[ahead] for ahead in reached[pair]] for pair in pairs], lots


def _steps_read(machine, division, rung):
    """For each command whether it is free over a kernel, and the index of the kernel ahead."""
    return [(is_free_over(machine, command, division), ahead) for command, ahead in enumerate(rung)]


def _pairs_ahead(steps, asked, lacking):
    """The pairs to which the commands lead; a command that is not free must be the next one of the tray."""
    pairs = []
    for command, (is_free, ahead) in enumerate(steps):
        if is_free:
            pairs.append((lacking, ahead))
        elif lacking > 0 and command in asked[lacking - 1]:
            pairs.append((lacking - 1, ahead))
    return pairs
