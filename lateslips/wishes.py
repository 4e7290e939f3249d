"""Wishes: what a machine may be wished to be, and the finest face whose machine is so."""

from lateslips.changes import is_blind
from lateslips.divisions import is_free_over
from lateslips.errors import Refused
from lateslips.grades import grade
from lateslips.joins import closing_steps, face_of_steps
from lateslips.machines import resting
from lateslips.verdicts import kind_of

WISHES = ("late", "tray", "free", "swapped", "exchanged", "struck")


def refuse_wish(value):
    """Refuses any value that is no wish."""
    if not isinstance(value, str) or value not in WISHES:
        raise Refused(0)


def fulfils(machine, wish="late"):
    """Whether the machine fulfils any value, a wish."""
    refuse_wish(wish)
    if wish == "late":
        return not is_blind(machine)
    if wish == "tray":
        return kind_of(machine) == "tray"
    if wish == "free":
        return all([is_free_over(machine, command, resting(machine)) for command in range(machine.commands)])
    # The last three wishes ask for the grades 2, 3 and 4.
    return grade(machine) >= WISHES.index(wish) - 1


def finest_face(machine, wish="late"):
    """The face whose machine fulfils any value, a wish, and that lies within all such."""
    refuse_wish(wish)
    return face_of_steps(machine, wish, closing_steps(machine, wish))
