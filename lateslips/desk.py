"""A desk: a store that is told what to do in words, and answers in words."""

from lateslips.errors import InvalidCommand
from lateslips.machines import Machine
from lateslips.store import Store
from lateslips.values import number_in
from lateslips.verdicts import kind_of

MOST_FIGURES = 4


class Desk:
    """A desk without a store, until a machine is told."""

    def __init__(self):
        self.store = None

    def say(self, command):
        """Does a command, any value, and tells the answer."""
        word, numbers = _read(command)
        if word == "machine":
            self.store = Store(_machine_of(numbers), 0)
            return "ok"
        if self.store is None:
            raise InvalidCommand()
        if len(numbers) == 0:
            return _told(self.store, word)
        return _done(self.store, word, numbers)


def _read(command):
    """The first word of a command, and the numbers behind it."""
    if not isinstance(command, str):
        raise InvalidCommand()
    words = command.split(" ")
    numbers = [number_in(word, MOST_FIGURES) for word in words[1:]]
    if None in numbers:
        raise InvalidCommand()
    return words[0], numbers


def _machine_of(numbers):
    if len(numbers) < 3 or len(numbers) - 2 != numbers[0] * numbers[1]:
        raise InvalidCommand()
    commands, entries = numbers[0], numbers[2:]
    return Machine(commands, [entries[at:at + commands] for at in range(0, len(entries), commands)])


def _told(store, word):
    """The answer to a command without numbers."""
    if word == "now":
        return str(store.now())
    if word == "count":
        return str(store.count())
    if word == "kept":
        return " ".join([f"{time}:{command}" for time, command in store.kept()]) or "none"
    if word == "kind":
        return kind_of(store.machine)
    if word == "undo":
        return "ok" if store.undo() else "nothing"
    raise InvalidCommand()


def _done(store, word, numbers):
    """The answer to a command with slips."""
    slips = list(zip(numbers[::2], numbers[1::2]))
    if len(numbers) != 2 * len(slips):
        raise InvalidCommand()
    if word == "all":
        store.come_all(slips)
        return "ok"
    if word == "come" and len(slips) == 1:
        store.come(slips[0])
        return "ok"
    if word == "matters" and len(slips) == 1:
        return "yes" if store.matters(slips[0]) else "no"
    raise InvalidCommand()
