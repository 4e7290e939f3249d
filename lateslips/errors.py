"""The errors of the package.

The classes leave the arguments of the error as Python keeps them, so that a
number that is raised also shows in its message.
"""


class SlipsError(ValueError):
    """What all errors of this package are."""


class InvalidMachine(SlipsError):
    """No machine; `at` tells which part of it is wrong."""

    def __init__(self, at):
        self.at = at


class InvalidRow(SlipsError):
    """No row; `at` is the index of the first entry that is no command."""

    def __init__(self, at):
        self.at = at


class InvalidSlip(SlipsError):
    """No slip, or no heap; `at` is the index of the first entry that is wrong."""

    def __init__(self, at):
        self.at = at


class InvalidQuestion(SlipsError):
    """An argument is not as told; `at` tells which."""

    def __init__(self, at):
        self.at = at


class InvalidText(SlipsError):
    """No text of a machine; `at` is the index of the first wrong line."""

    def __init__(self, at):
        self.at = at


class Blind(SlipsError):
    """What stands now and the slips since do not tell it."""

    def __init__(self, at):
        self.at = at


class Heavy(SlipsError):
    """There is no end to what must be kept."""

    def __init__(self, at):
        self.at = at


class Refused(SlipsError):
    """The arguments do not fit; `at` tells in which way."""

    def __init__(self, at):
        self.at = at


class InvalidCommand(SlipsError):
    """A desk does not understand what was said."""
