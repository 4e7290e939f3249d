"""Pairs of unlike states, by numbers: where commands lead them, and whether they meet.

Which of two states is which does not matter to whether a row brings them
together, so each pair has one number, whatever its order.
"""

MET = -1


def pairs_of(machine):
    """The pairs (s, t) of states, s less than t, in the order of their numbers."""
    return [(s, t) for s in range(machine.states) for t in range(s + 1, machine.states)]


def pair_numbers(machine):
    """Lists in which `numbers[s][t]` is the number of the pair, MET for equal states."""
    numbers = [[MET] * machine.states for _ in range(machine.states)]
    for number, (s, t) in enumerate(pairs_of(machine)):
        numbers[s][t] = number
        numbers[t][s] = number
    return numbers


def pair_steps(machine):
    """For each pair and each command the number of the pair to which it leads, MET if they meet."""
    numbers = pair_numbers(machine)
    steps = []
    for s, t in pairs_of(machine):
        steps.append([numbers[one][other] for one, other in zip(machine.steps[s], machine.steps[t])])
    return steps
