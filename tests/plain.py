"""Plain reckoning for the tests: slow, short, and without a line of the package but `Machine`."""

import itertools
import random

from lateslips.machines import Machine


def rows(commands, longest):
    """All rows of at most so many commands, the shorter ones first, then ascending."""
    for length in range(longest + 1):
        yield from itertools.product(range(commands), repeat=length)


def lead(steps, state, row):
    for command in row:
        state = steps[state][command]
    return state


def ends(machine, row):
    return tuple(lead(machine.steps, state, row) for state in range(machine.states))


def division(labels):
    """For each index the first one with the same label."""
    return tuple(list(labels).index(label) for label in labels)


def kernel(machine, row):
    return division(ends(machine, row))


def effects(machine):
    """Each effect of a row, with the first of the shortest rows that have it."""
    found = {tuple(range(machine.states)): ()}
    level = [()]
    while level:
        longer = sorted(row + (command,) for row in level for command in range(machine.commands))
        level = []
        for row in longer:
            if ends(machine, row) not in found:
                found[ends(machine, row)] = row
                level.append(row)
    return found


def kernels(machine):
    return tuple(sorted({division(done) for done in effects(machine)}))


def within(one, other):
    places = range(len(one))
    return all(other[s] == other[t] for s in places for t in places if one[s] == one[t])


def parts(row):
    """All that is left of a row if some commands are struck."""
    for size in range(len(row) + 1):
        yield from itertools.combinations(row, size)


def has_fault(machine, change, done):
    """The pairs (s, t) that a row with the effect `done` brings together, but not behind the change."""
    pairs = itertools.combinations(range(machine.states), 2)
    return [(s, t) for s, t in pairs if done[s] == done[t] and done[change[s]] != done[change[t]]]


def is_blind(machine):
    each = [ends(machine, (command,)) for command in range(machine.commands)]
    return any(has_fault(machine, change, done) for change in each for done in effects(machine))


def every_machine(commands, states):
    entries = list(itertools.product(range(states), repeat=commands))
    for steps in itertools.product(entries, repeat=states):
        yield Machine(commands, steps)


def some_machines(many, seed, commands=(1, 3), states=(1, 5)):
    """So many machines, the same ones each time."""
    chance = random.Random(seed)
    for _ in range(many):
        a, s = chance.randint(*commands), chance.randint(*states)
        yield Machine(a, [[chance.randrange(s) for _ in range(a)] for _ in range(s)])


def some_sighted(many, seed, commands=(1, 3), states=(1, 5)):
    """So many machines that are not blind, the same ones each time."""
    chance = random.Random(seed)
    found = []
    while len(found) < many:
        a, s = chance.randint(*commands), chance.randint(*states)
        columns = [chance.choice(SHAPES)(chance, s) for _ in range(a)]
        machine = Machine(a, [[column[state] for column in columns] for state in range(s)])
        if not is_blind(machine):
            found.append(machine)
    return found


def _any_column(chance, states):
    return [chance.randrange(states) for _ in range(states)]


def _down_column(chance, states):
    by = chance.randrange(states)
    return [max(state - by, 0) for state in range(states)]


def _lower_column(chance, states):
    return sorted(chance.randrange(state + 1) for state in range(states))


def _turned_column(chance, states):
    by = chance.randrange(states)
    return [(state + by) % states for state in range(states)]


def _same_column(chance, states):
    return [chance.randrange(states)] * states


SHAPES = (_any_column, _any_column, _down_column, _lower_column, _turned_column, _same_column)

# What is no number, whatever numbers are asked.
NO_NUMBERS = (True, False, None, -1, "0", 0.0, (0,), [0])


def deep_sighted(many, seed, commands=(1, 3), states=(2, 5)):
    """As `some_sighted`, but some command of each brings states together."""
    found = []
    turn = 0
    while len(found) < many:
        turn += 1
        wider = some_sighted(many, repr((seed, turn)), commands, states)
        found.extend(machine for machine in wider if len(kernels(machine)) > 1)
    return found[:many]


def greatest(machine):
    """The division that brings together all that any row does."""
    found = kernels(machine)
    states = range(machine.states)
    return tuple(min(t for t in states if any(one[s] == one[t] for one in found)) for s in states)


def most_kept(machine):
    return machine.states - len(set(greatest(machine)))


def all_sighted(commands, states):
    return [machine for machine in every_machine(commands, states) if not is_blind(machine)]


# Eight climbs and 162 kernels, as many as a long search could find within the limits.
WIDE = Machine(5, [
    (0, 0, 0, 0, 7), (1, 1, 1, 2, 1), (2, 2, 2, 2, 2), (3, 3, 2, 3, 3), (4, 4, 3, 4, 4),
    (5, 5, 5, 1, 5), (8, 6, 6, 6, 6), (7, 7, 7, 7, 2), (2, 8, 8, 8, 8), (9, 2, 9, 9, 9),
])


def is_free(machine, command, row):
    """Whether the command may change places with each one ahead of the row."""
    return all(
        lead(machine.steps, state, (command, x) + tuple(row)) == lead(machine.steps, state, (x, command) + tuple(row))
        for state in range(machine.states) for x in range(machine.commands)
    )


def is_idle(machine, command, row):
    return ends(machine, (command,) + tuple(row)) == ends(machine, row)


def is_harmless(machine, command, row):
    twice = ends(machine, (command, command) + tuple(row))
    return is_free(machine, command, row) and twice == ends(machine, (command,) + tuple(row))


def held(machine, heap, rule):
    """The slips of a heap of which the rule is false, asked with the row of the newer ones."""
    heap = sorted(heap)
    newer = [tuple(command for _, command in heap[place + 1:]) for place in range(len(heap))]
    return tuple(slip for slip, row in zip(heap, newer) if not rule(machine, slip[1], row))


def tray(machine, heap):
    return held(machine, heap, is_free)


def row_held(machine, row, rule):
    return tuple(command for _, command in held(machine, list(enumerate(row)), rule))


def heaps(commands, times):
    """All heaps whose slips have some of these times."""
    for size in range(len(times) + 1):
        for some in itertools.combinations(times, size):
            for row in itertools.product(range(commands), repeat=size):
                yield tuple(zip(some, row))


def truth(machine, state, heap):
    return lead(machine.steps, state, [command for _, command in sorted(heap)])


def filled_end(machine, state, heap, filling):
    """Where the filled heap leads: slip by slip, each behind the rows of its time and of lesser ones."""
    waiting = list(filling)
    for time, command in sorted(heap):
        while waiting and waiting[0][0] <= time:
            state = lead(machine.steps, state, waiting.pop(0)[1])
        state = machine.steps[state][command]
    for _, row in waiting:
        state = lead(machine.steps, state, row)
    return state


def stays(machine):
    """The pairs (row, command) such that the command, followed by the row, has its kernel: a row for each effect."""
    for row in effects(machine).values():
        for command in range(machine.commands):
            if kernel(machine, (command,) + row) == kernel(machine, row):
                yield row, command


def kind(machine):
    if is_blind(machine):
        return "blind"
    return "tray" if all(is_free(machine, command, row) for row, command in stays(machine)) else "heavy"


def kind_again(machine):
    if is_blind(machine):
        return "blind"
    return "lasting" if all(is_idle(machine, command, row) for row, command in stays(machine)) else "counting"


def some_of_kind(many, seed, told, rule=kind, commands=(2, 3), states=(2, 4)):
    """So many machines that are not blind and of which the rule tells this kind, the same ones each time."""
    found = []
    turn = 0
    while len(found) < many:
        turn += 1
        wider = some_sighted(many, repr((seed, turn)), commands, states)
        found.extend(machine for machine in wider if rule(machine) == told)
    return found[:many]


def is_below(value, limit):
    return type(value) is int and 0 <= value < limit


def is_row(machine, value):
    return type(value) is tuple and all(is_below(entry, machine.commands) for entry in value)


def is_division(machine, value):
    if type(value) is not tuple or len(value) != machine.states:
        return False
    if not all(is_below(entry, machine.states) for entry in value):
        return False
    return all(least <= state and value[least] == least for state, least in enumerate(value))


def ahead_of(machine, value, command):
    return division([value[entry[command]] for entry in machine.steps])


def is_cover(machine, value):
    if type(value) is not tuple or not all(is_division(machine, entry) for entry in value):
        return False
    if list(value) != sorted(set(value)) or tuple(range(machine.states)) not in value:
        return False
    return all(
        ahead_of(machine, entry, command) in value and within(entry, ahead_of(machine, entry, command))
        for entry in value for command in range(machine.commands)
    )


def cover_stays(machine, value):
    """The pairs (division, command) of a cover for which the division ahead is the same."""
    for entry in value:
        for command in range(machine.commands):
            if ahead_of(machine, entry, command) == entry:
                yield entry, command


def changed(value):
    """Values with one place of this one changed, lists and what is no number among them."""
    if isinstance(value, tuple):
        yield list(value)
        yield value + value[-1:] if value else (0,)
        yield value[:-1]
        yield value[1:]
        yield value[::-1]
        for place, entry in enumerate(value):
            for other in changed(entry):
                yield value[:place] + (other,) + value[place + 1:]
    elif isinstance(value, str):
        yield from ("blind", "heavy", "tray", "counting", "lasting", "", None, 0, value + " ", value.upper(), [value])
    else:
        yield from (value + 1, value - 1, -1, 0, 1, True, False, None, float(value), str(value), (value,))


def all_divisions(states):
    """The divisions of so many states into classes."""
    return sorted({division(labels) for labels in itertools.product(range(states), repeat=states)})


def some_of(values):
    """All tuples of some of these, in their order."""
    for size in range(len(values) + 1):
        yield from itertools.combinations(values, size)


def are_parted(machine, state, one, other, again=False):
    """Whether some filling (and, if asked, some slips that come again) lead the state to unlike ones, by all pairs."""
    pairs = {(state, state)}
    first, second = dict(one), dict(other)
    for time in sorted(set(first) | set(second)):
        while True:
            wider = pairs | {(machine.steps[p][x], machine.steps[q][x]) for p, q in pairs for x in range(machine.commands)}
            if wider == pairs:
                break
            pairs = wider
        ways = [([first[time]] if time in first else [], [second[time]] if time in second else [])]
        if again and (time in first) != (time in second):
            ways.append((ways[0][0] + ways[0][1],) * 2)
        pairs = {(lead(machine.steps, p, u), lead(machine.steps, q, v)) for p, q in pairs for u, v in ways}
    return any(p != q for p, q in pairs)


def shortest_rows(machine):
    """For each effect the first of the shortest rows that have it, the shorter ones first, then ascending."""
    return sorted(effects(machine).values(), key=lambda row: (len(row), row))


def apart(machine, row, other, since):
    """The pairs (s, t), s less than t, that `row` and `since` bring together, `other` and `since` do not."""
    done, wanted = ends(machine, row + since), ends(machine, other + since)
    pairs = itertools.combinations(range(machine.states), 2)
    return [(s, t) for s, t in pairs if done[s] == done[t] and wanted[s] != wanted[t]]


def may_become(machine, row, other):
    return not any(apart(machine, row, other, since) for since in effects(machine).values())


def unlike_commands(machine):
    return list(itertools.permutations(range(machine.commands), 2))


def grade(machine):
    each = range(machine.commands)
    if all(may_become(machine, (a,), ()) for a in each):
        return 4
    if all(may_become(machine, (a,), (b,)) for a, b in unlike_commands(machine)):
        return 3
    if all(may_become(machine, (a, b), (b, a)) for a, b in unlike_commands(machine)):
        return 2
    return 1 if all(may_become(machine, (), (a,)) for a in each) else 0


def faces(machine):
    """All faces, ascending."""
    return [value for value in all_divisions(machine.states) if is_face(machine, value)]


def is_face(machine, value):
    if not is_division(machine, value):
        return False
    return all(within(value, ahead_of(machine, value, command)) for command in range(machine.commands))


def classes_machine(machine, face):
    leasts = sorted(set(face))
    return Machine(machine.commands, [[leasts.index(face[end]) for end in machine.steps[least]] for least in leasts])


def fulfils(machine, wish):
    if wish == "late":
        return not is_blind(machine)
    if wish == "tray":
        return kind(machine) == "tray"
    if wish == "free":
        return all(is_free(machine, command, ()) for command in range(machine.commands))
    return grade(machine) >= {"swapped": 2, "exchanged": 3, "struck": 4}[wish]


def finest_face(machine, wish):
    """The first of the fulfilling faces that lies within all of them."""
    found = [face for face in faces(machine) if fulfils(classes_machine(machine, face), wish)]
    return [face for face in found if all(within(face, other) for other in found)][0]
