"""Rounds: rows in which each command stands, and how many of them bring all together."""

from lateslips.changes import refuse_blind
from lateslips.ladders import rungs_of


def rounds_needed(machine):
    """The least number of rounds that have the greatest kernel, whatever rounds they are."""
    slow = slow_rounds(machine)
    if slow is None:
        return 0
    return len(slow) + 1


def slow_rounds(machine):
    """None if no round is needed; else as many rounds as can have another kernel than the greatest."""
    refuse_blind(machine)
    rungs, _ = rungs_of(machine)
    if len(rungs) == 1:
        return None
    return _cut_into_rounds(_slow_row(rungs), machine.commands)


def _slow_row(rungs):
    """The commands of a row with many rounds and not the greatest kernel, the last command first.

    A row is read from its last command on.  At a kernel all commands that stay
    there can be done for nothing, so only a climb costs something.  What counts
    is how many rounds are done when a kernel is reached, and which commands of
    the next one are.
    """
    reached = [{} for _ in rungs]
    _arrive(reached, rungs, len(rungs) - 1, (0, ()), ())
    most, slow = 0, ()
    # The ladder leads to lesser indexes only; 0 is the greatest kernel.
    for number in range(len(rungs) - 1, 0, -1):
        for held in list(reached[number]):
            done, read = reached[number][held]
            if done > most:
                most, slow = done, read
            for command, ahead in enumerate(rungs[number]):
                if ahead not in (0, number):
                    _arrive(reached, rungs, ahead, (done, held), read + (command,))
    return slow


def _arrive(reached, rungs, number, state, read):
    """Notes how a kernel is reached: `state` is how many rounds are done, and what is held of the next one."""
    stay = tuple([command for command, ahead in enumerate(rungs[number]) if ahead == number])
    # Once to end the round that was begun, and once more to begin the next one.
    for command in read[-1:] + stay + stay:
        state = _with_command(state, command, len(rungs[number]))
    done, held = state
    read = read + stay + stay
    if held not in reached[number] or reached[number][held][0] < done:
        reached[number][held] = (done, read)


def _with_command(state, command, commands):
    done, held = state
    held = tuple(sorted(set(held + (command,))))
    if len(held) == commands:
        return done + 1, ()
    return done, held


def _cut_into_rounds(read, commands):
    """The rounds of a row, whose commands are told from the last one on; what is left ahead is no round."""
    rounds = []
    held = ()
    for command in read:
        held = (command,) + held
        if len(set(held)) == commands:
            rounds.append(held)
            held = ()
    return tuple(rounds[::-1])
