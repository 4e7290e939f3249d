import itertools
import random
import unittest

from lateslips.copies import is_standing, taken, taken_all
from lateslips.errors import Blind, InvalidQuestion, InvalidSlip, Refused
from tests import plain
from tests.case import (
    CARDS, CARDS_AND_STOCKS, Case, DOWN, FIRST, LONG, NEWEST, NO_HEAPS, NO_SLIPS, NO_STANDINGS, ONE, SUMS, TURN_AND_END,
    WIDE_HEAVY,
)

NEW_BASE = (1, ((4, 1),))


def sighted():
    return (
        plain.some_of_kind(8, "copies", "tray") + plain.some_of_kind(4, "copies", "heavy")
        + [NEWEST, SUMS, CARDS, DOWN, TURN_AND_END, ONE]
    )


def plain_beginnings(machine, standing):
    now, kept = standing
    return [state for state in range(machine.states) if plain.truth(machine, state, kept) == now]


def all_standings(machine, times):
    """All standings whose slips have some of these times."""
    for kept in plain.heaps(machine.commands, times):
        for now in range(machine.states):
            if plain_beginnings(machine, (now, kept)):
                yield (now, kept)


def plain_taken(machine, base, standing, slip):
    heap = standing[1] + (slip,)
    ends = {plain.truth(machine, state, heap) for state in plain_beginnings(machine, standing)}
    assert len(ends) == 1
    return (ends.pop(), tuple(sorted(set(base[1] + plain.tray(machine, heap)))))


class StandingTest(Case):
    def test_all_small_ones(self):
        wider = list(plain.some_machines(20, "standings", states=(1, 4)))
        for machine in sighted() + wider + [FIRST]:
            standings = set(all_standings(machine, (0, 2, 5)))
            for kept in plain.heaps(machine.commands, (0, 2, 5)):
                for now in range(machine.states):
                    self.assertIs(is_standing(machine, (now, kept)), (now, kept) in standings)

    def test_values_that_are_none(self):
        for value in NO_STANDINGS:
            self.assertIs(is_standing(NEWEST, value), False, value)
        self.assertIs(is_standing(machine=NEWEST, value=(0, ())), True)
        for value in plain.changed((0, ((4, 1), (6, 0)))):
            self.assertIs(is_standing(NEWEST, value), strictly(value), value)

    def test_in_a_blind_machine(self):
        self.assertIs(is_standing(FIRST, (1, ((5, 0),))), True)
        self.assertIs(is_standing(FIRST, (0, ((5, 0),))), False)


def strictly(value):
    """Whether a value is a standing of NEWEST: the last command tells the state."""
    if type(value) is not tuple or len(value) != 2 or type(value[1]) is not tuple:
        return False
    now, kept = value
    if not plain.is_below(now, 2) or not all(type(slip) is tuple and len(slip) == 2 for slip in kept):
        return False
    if not all(plain.is_below(time, 10 ** 9) and plain.is_below(command, 2) for time, command in kept):
        return False
    times = [time for time, _ in kept]
    return times == sorted(set(times)) and (not kept or kept[-1][1] == now)


class TakenTest(Case):
    def test_as_shown(self):
        self.assertEqual(taken(NEWEST, NEW_BASE, NEW_BASE, (5, 0)), (0, ((4, 1), (5, 0))))

    def test_all_small_ones(self):
        for machine in sighted():
            standings = list(all_standings(machine, (1, 4)))
            for base, standing in itertools.product(standings, repeat=2):
                if set(base[1]) <= set(standing[1]):
                    self.compare(machine, base, standing)
                else:
                    self.fails(InvalidQuestion, 2, taken, machine, base, standing, None)

    def compare(self, machine, base, standing):
        for slip in itertools.product((0, 1, 2, 4, 9), range(machine.commands)):
            if slip[0] in [time for time, _ in standing[1]]:
                self.fails(Refused, 0, taken, machine, base, standing, slip)
            else:
                wanted = plain_taken(machine, base, standing, slip)
                self.assertEqual(taken(machine=machine, base=base, standing=standing, slip=slip), wanted)
                self.assertIs(is_standing(machine, wanted), True)

    def test_which_error_goes_first(self):
        for value in NO_STANDINGS + ((0, ()),):
            self.fails(Blind, 0, taken, FIRST, value, None, None)
        for value in NO_STANDINGS:
            self.fails(InvalidQuestion, 1, taken, NEWEST, value, None, None)
            self.fails(InvalidQuestion, 2, taken, NEWEST, (0, ()), value, None)
        for standing in ((0, ()), (1, ((5, 1),)), (0, ((4, 0),)), (1, ((3, 0), (5, 1)))):
            self.fails(InvalidQuestion, 2, taken, NEWEST, NEW_BASE, standing, None)
        for slip in NO_SLIPS:
            self.fails(InvalidSlip, 0, taken, NEWEST, NEW_BASE, NEW_BASE, slip)
        for slip in ((4, 1), (4, 0)):
            self.fails(Refused, 0, taken, NEWEST, NEW_BASE, NEW_BASE, slip)
            self.fails(Refused, 0, taken, machine=NEWEST, base=(0, ()), standing=(1, ((4, 1), (7, 1))), slip=slip)


class TakenAllTest(Case):
    def test_in_any_order(self):
        for machine in sighted():
            for base in all_standings(machine, (2, 4)):
                for own in plain.heaps(machine.commands, (0, 3, 6)):
                    for slips in list(itertools.permutations(own))[:3]:
                        self.compare(machine, base, slips)

    def compare(self, machine, base, slips):
        standing = base
        for slip in slips:
            standing = plain_taken(machine, base, standing, slip)
        found = taken_all(machine=machine, base=base, slips=list(slips))
        self.assertEqual(found, standing)
        whole = base[1] + tuple(slips)
        for state in plain_beginnings(machine, base):
            self.assertEqual(found[0], plain.truth(machine, state, whole))
        self.assertLessEqual(set(base[1]) | set(plain.tray(machine, whole)), set(found[1]))
        self.assertLessEqual(set(found[1]), set(whole))

    def test_which_error_goes_first(self):
        for value in NO_STANDINGS + ((0, ()),):
            self.fails(Blind, 0, taken_all, FIRST, value, None)
        for value in NO_STANDINGS:
            self.fails(InvalidQuestion, 1, taken_all, NEWEST, value, None)
        for value, at in NO_HEAPS:
            self.fails(InvalidSlip, at, taken_all, NEWEST, (1, ((5, 1),)), value)
        for slips in ([(4, 1)], [(4, 0)], [(7, 1), (4, 1), (2, 0)], ((9, 0), (4, 0))):
            self.fails(Refused, 0, taken_all, NEWEST, NEW_BASE, slips)
        self.fails(InvalidSlip, 1, taken_all, machine=NEWEST, base=NEW_BASE, slips=[(4, 1), (4, 1)])

    def test_empty(self):
        self.assertEqual(taken_all(NEWEST, NEW_BASE, []), NEW_BASE)
        base = (0, ((3, 1), (4, 0)))
        self.assertEqual(taken_all(NEWEST, base, ()), base)
        self.assertEqual(taken_all(ONE, (0, ()), [(3, 0)]), (0, ()))

    def test_at_the_limits(self):
        chance = random.Random("taken")
        for machine in (LONG, WIDE_HEAVY, CARDS_AND_STOCKS, plain.WIDE, CARDS):
            slips = [(2 * time, chance.randrange(machine.commands)) for time in range(200)]
            kept = tuple((2 * time + 1, chance.randrange(machine.commands)) for time in range(5))
            base = (plain.truth(machine, 1, kept), kept)
            wanted = plain.truth(machine, 1, tuple(slips) + kept)
            chance.shuffle(slips)
            now, held = taken_all(machine, base, slips)
            self.assertEqual(now, wanted)
            self.assertLessEqual(set(kept) | set(plain.tray(machine, tuple(slips) + kept)), set(held))
            slip = (10 ** 9, 1)
            self.assertEqual(taken(machine, base, (now, held), slip)[0], machine.steps[now][1])

    def test_slips_changed_later(self):
        slips = [(7, 0), (6, 1)]
        found = taken_all(NEWEST, NEW_BASE, slips)
        self.assertEqual(slips, [(7, 0), (6, 1)])
        slips.clear()
        self.assertEqual(found, (0, ((4, 1), (7, 0))))

    def test_machines_in_turn(self):
        for _ in range(2):
            told = [taken_all(machine, (0, ()), [(4, 0), (3, 0)]) for machine in (SUMS, CARDS, DOWN)]
            self.assertEqual(told, [(2, ()), (0, ((3, 0), (4, 0))), (0, ())])


if __name__ == "__main__":
    unittest.main()
