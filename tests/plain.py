"""Plain reckoning for the tests: slow, short, and without a line of the package but `Machine`."""

import itertools
import random

from lateslips.machines import Machine


def rows(commands, longest):
    """All rows of at most so many commands, the shorter ones first, then ascending."""
    for length in range(longest + 1):
        yield from itertools.product(range(commands), repeat=length)


def lead(steps, state, row):
    for command in row:
        state = steps[state][command]
    return state


def ends(machine, row):
    return tuple(lead(machine.steps, state, row) for state in range(machine.states))


def division(labels):
    """For each index the first one with the same label."""
    return tuple(list(labels).index(label) for label in labels)


def kernel(machine, row):
    return division(ends(machine, row))


def effects(machine):
    """Each effect of a row, with the first of the shortest rows that have it."""
    found = {tuple(range(machine.states)): ()}
    level = [()]
    while level:
        longer = sorted(row + (command,) for row in level for command in range(machine.commands))
        level = []
        for row in longer:
            if ends(machine, row) not in found:
                found[ends(machine, row)] = row
                level.append(row)
    return found


def kernels(machine):
    return tuple(sorted({division(done) for done in effects(machine)}))


def within(one, other):
    places = range(len(one))
    return all(other[s] == other[t] for s in places for t in places if one[s] == one[t])


def parts(row):
    """All that is left of a row if some commands are struck."""
    for size in range(len(row) + 1):
        yield from itertools.combinations(row, size)


def has_fault(machine, change, done):
    """The pairs (s, t) that a row with the effect `done` brings together, but not behind the change."""
    pairs = itertools.combinations(range(machine.states), 2)
    return [(s, t) for s, t in pairs if done[s] == done[t] and done[change[s]] != done[change[t]]]


def is_blind(machine):
    each = [ends(machine, (command,)) for command in range(machine.commands)]
    return any(has_fault(machine, change, done) for change in each for done in effects(machine))


def every_machine(commands, states):
    entries = list(itertools.product(range(states), repeat=commands))
    for steps in itertools.product(entries, repeat=states):
        yield Machine(commands, steps)


def some_machines(many, seed, commands=(1, 3), states=(1, 5)):
    """So many machines, the same ones each time."""
    chance = random.Random(seed)
    for _ in range(many):
        a, s = chance.randint(*commands), chance.randint(*states)
        yield Machine(a, [[chance.randrange(s) for _ in range(a)] for _ in range(s)])


def some_sighted(many, seed, commands=(1, 3), states=(1, 5)):
    """So many machines that are not blind, the same ones each time."""
    chance = random.Random(seed)
    found = []
    while len(found) < many:
        a, s = chance.randint(*commands), chance.randint(*states)
        columns = [chance.choice(SHAPES)(chance, s) for _ in range(a)]
        machine = Machine(a, [[column[state] for column in columns] for state in range(s)])
        if not is_blind(machine):
            found.append(machine)
    return found


def _any_column(chance, states):
    return [chance.randrange(states) for _ in range(states)]


def _down_column(chance, states):
    by = chance.randrange(states)
    return [max(state - by, 0) for state in range(states)]


def _lower_column(chance, states):
    return sorted(chance.randrange(state + 1) for state in range(states))


def _turned_column(chance, states):
    by = chance.randrange(states)
    return [(state + by) % states for state in range(states)]


def _same_column(chance, states):
    return [chance.randrange(states)] * states


SHAPES = (_any_column, _any_column, _down_column, _lower_column, _turned_column, _same_column)

# What is no number, whatever numbers are asked.
NO_NUMBERS = (True, False, None, -1, "0", 0.0, (0,), [0])


def deep_sighted(many, seed, commands=(1, 3), states=(2, 5)):
    """As `some_sighted`, but some command of each brings states together."""
    found = []
    turn = 0
    while len(found) < many:
        turn += 1
        wider = some_sighted(many, repr((seed, turn)), commands, states)
        found.extend(machine for machine in wider if len(kernels(machine)) > 1)
    return found[:many]


def greatest(machine):
    """The division that brings together all that any row does."""
    found = kernels(machine)
    states = range(machine.states)
    return tuple(min(t for t in states if any(one[s] == one[t] for one in found)) for s in states)


def most_kept(machine):
    return machine.states - len(set(greatest(machine)))


def all_sighted(commands, states):
    return [machine for machine in every_machine(commands, states) if not is_blind(machine)]


# Eight climbs and 162 kernels, as many as a long search could find within the limits.
WIDE = Machine(5, [
    (0, 0, 0, 0, 7), (1, 1, 1, 2, 1), (2, 2, 2, 2, 2), (3, 3, 2, 3, 3), (4, 4, 3, 4, 4),
    (5, 5, 5, 1, 5), (8, 6, 6, 6, 6), (7, 7, 7, 7, 2), (2, 8, 8, 8, 8), (9, 2, 9, 9, 9),
])
