"""Machines as texts."""

from lateslips.errors import InvalidText
from lateslips.machines import Machine
from lateslips.values import number_in

MOST_FIGURES = 2


def machine_text(machine):
    """The text of a machine: a line with its numbers, then a line for each state."""
    lines = [f"machine {machine.commands} {machine.states}"]
    for entry in machine.steps:
        lines.append(" ".join([str(state) for state in entry]))
    return "\n".join(lines)


def read_machine(text):
    """The machine with exactly this text, any value."""
    if not isinstance(text, str):
        raise InvalidText(0)
    lines = text.split("\n")
    commands, states = _head(lines[0])
    steps = []
    for at in range(1, states + 1):
        if at == len(lines):
            raise InvalidText(at)
        steps.append(_entry(lines[at], commands, states, at))
    if len(lines) > states + 1:
        raise InvalidText(states + 1)
    return Machine(commands, steps)


def _head(line):
    words = line.split(" ")
    if len(words) != 3 or words[0] != "machine":
        raise InvalidText(0)
    commands, states = _number(words[1], 0), _number(words[2], 0)
    if commands == 0 or states == 0:
        raise InvalidText(0)
    return commands, states


def _entry(line, commands, states, at):
    entry = [_number(word, at) for word in line.split(" ")]
    if len(entry) != commands or max(entry) >= states:
        raise InvalidText(at)
    return entry


def _number(word, at):
    """The number that stands in the line `at` as this word."""
    number = number_in(word, MOST_FIGURES)
    if number is None:
        raise InvalidText(at)
    return number
