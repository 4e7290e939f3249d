import itertools
import random
import unittest

from lateslips.changes import is_fault
from lateslips.machines import Machine
from lateslips.verdicts import is_load, is_verdict, kind_of, verdict
from tests import plain
from tests.case import (
    CARDS, CARDS_AND_STOCKS, Case, DOWN, FIRST, LONG, NEWEST, ONE, SUMS, TURN_AND_END, WIDE_HEAVY,
)


def machines():
    return (
        plain.some_of_kind(15, "verdicts", "tray") + plain.some_of_kind(15, "verdicts", "heavy")
        + list(plain.some_machines(30, "verdicts", states=(1, 4))) + [NEWEST, SUMS, CARDS, DOWN, FIRST, ONE, TURN_AND_END]
    )


def plain_is_load(machine, value):
    if type(value) is not tuple or len(value) != 4:
        return False
    row, command, state, late = value
    if not plain.is_row(machine, row) or not plain.is_below(state, machine.states):
        return False
    if not plain.is_row(machine, (command, late)):
        return False
    if plain.kernel(machine, row) != plain.kernel(machine, (command,) + row):
        return False
    one = plain.lead(machine.steps, state, (command, late) + row)
    return one != plain.lead(machine.steps, state, (late, command) + row)


def plain_is_blind(machine, value):
    if type(value) is not tuple or len(value) != 4:
        return False
    s, t, x, row = value
    if not plain.is_below(s, machine.states) or not plain.is_below(t, machine.states) or s >= t:
        return False
    if not plain.is_row(machine, row) or not plain.is_below(x, machine.commands):
        return False
    done, late = plain.ends(machine, row), plain.ends(machine, (x,) + row)
    return done[s] == done[t] and late[s] != late[t]


def changes_places(machine, value, command):
    """Whether the command and each other one lead each state into the same class in both orders."""
    steps = machine.steps
    return all(
        value[steps[entry[command]][x]] == value[steps[entry[x]][command]]
        for entry in steps for x in range(machine.commands)
    )


def plain_is_verdict(machine, value):
    if type(value) is not tuple or len(value) != 2:
        return False
    kind, told = value
    if kind == "blind":
        return plain_is_blind(machine, told)
    if kind == "heavy":
        return (
            type(told) is tuple and len(told) == 2
            and plain.is_cover(machine, told[0]) and plain_is_load(machine, told[1])
        )
    if kind != "tray" or not plain.is_cover(machine, told):
        return False
    return all(changes_places(machine, *stay) for stay in plain.cover_stays(machine, told))


def possible_values(machine):
    """All that could be a verdict of a small machine, with rows of at most two commands."""
    states, commands = range(machine.states), range(machine.commands)
    covers = list(plain.some_of(plain.all_divisions(machine.states)))
    rows = list(plain.rows(machine.commands, 2))
    yield from (("tray", cover) for cover in covers)
    yield from (("blind", value) for value in itertools.product(states, states, commands, rows))
    loads = list(itertools.product(rows, commands, states, commands))
    yield from (("heavy", pair) for pair in itertools.product(covers, loads))


class KindTest(Case):
    def test_named_machines(self):
        for machine in (NEWEST, SUMS, DOWN, ONE, LONG, plain.WIDE, TURN_AND_END):
            self.assertEqual(kind_of(machine), "tray")
        for machine in (CARDS, CARDS_AND_STOCKS, WIDE_HEAVY):
            self.assertEqual(kind_of(machine), "heavy")
        self.assertEqual(kind_of(machine=FIRST), "blind")

    def test_against_plain_reckoning(self):
        for machine in machines() + list(plain.every_machine(2, 2)) + list(plain.every_machine(1, 3)):
            self.assertEqual(kind_of(machine), plain.kind(machine))

    def test_heavy_behind_rows_only(self):
        # State 3 does what state 1 does, so no command stays at the kernel of the empty row.
        machine = Machine(2, [(1, 0), (0, 2), (2, 1), (0, 2)])
        self.assertEqual((kind_of(machine), plain.kind(machine)), ("heavy", "heavy"))
        kind, (cover, load) = verdict(machine)
        self.assertEqual((kind, cover, len(load[0])), ("heavy", ((0, 1, 2, 1), (0, 1, 2, 3)), 1))
        self.assertIs(is_load(machine, ((),) + load[1:]), False)

    def test_limits(self):
        chance = random.Random("kinds")
        for _ in range(30):
            machine = Machine(5, [[chance.randrange(10) for _ in range(5)] for _ in range(10)])
            self.assertIs(is_verdict(machine, verdict(machine)), True)
            self.assertEqual(verdict(machine)[0], kind_of(machine))


class LoadTest(Case):
    def test_all_short_ones(self):
        for machine in machines():
            states, commands = range(machine.states), range(machine.commands)
            for value in itertools.product(plain.rows(machine.commands, 2), commands, states, commands):
                self.assertIs(is_load(machine, value), plain_is_load(machine, value))

    def test_values_that_are_none(self):
        self.assertIs(is_load(machine=CARDS, value=((), 0, 0, 1)), True)
        for value in itertools.chain(plain.changed(((), 0, 0, 1)), plain.changed(((1, 0), 1, 2, 0))):
            self.assertIs(is_load(CARDS, value), plain_is_load(CARDS, value), value)
        for value in (None, 0, "load", [(), 0, 0, 1], ([], 0, 0, 1), ((), False, 0, 1), ((), 0, False, 1),
                      ((), 0, 0, True), ((False,), 0, 0, 1), ((2,), 0, 0, 1), ((), 2, 0, 1), ((), 0, 3, 1),
                      ((), 0, 0, 2), ((), 0, 0), ((), 0, 0, 1, 0), ((), None, 0, 1), (None, 0, 0, 1)):
            self.assertIs(is_load(CARDS, value), False, value)

    def test_blind_machines_may_have_some(self):
        blind = [machine for machine in machines() if plain.is_blind(machine)]
        some = [machine for machine in blind if any(
            is_load(machine, value) for value in itertools.product(
                plain.rows(machine.commands, 1), range(machine.commands), range(machine.states), range(machine.commands))
        )]
        self.assertTrue(some)

    def test_a_long_row(self):
        row = (0, 1) * 5000
        self.assertIs(is_load(CARDS, (row, 0, 0, 1)), plain_is_load(CARDS, (row, 0, 0, 1)))
        self.assertIs(is_load(CARDS, (row, 0, 0, 1)), True)
        self.assertIs(is_load(CARDS, (row + (2,), 0, 0, 1)), False)
        self.assertIs(is_load(NEWEST, (row, 0, 0, 1)), False)


class VerdictTest(Case):
    def test_each_machine_has_one(self):
        for machine in machines() + [LONG, CARDS_AND_STOCKS, WIDE_HEAVY, plain.WIDE]:
            found = verdict(machine=machine)
            self.assertEqual(found[0], kind_of(machine))
            self.assertIs(is_verdict(machine=machine, value=found), True)
            self.assertTrue(plain_is_verdict(machine, found))

    def test_all_values_of_small_machines(self):
        small = list(plain.some_machines(25, "all verdicts", commands=(1, 2), states=(1, 3)))
        small += plain.some_of_kind(6, "all verdicts", "tray", commands=(2, 2), states=(2, 3))
        for machine in small + [CARDS, NEWEST, FIRST]:
            kinds = set()
            for value in possible_values(machine):
                told = is_verdict(machine, value)
                self.assertIs(told, plain_is_verdict(machine, value), value)
                if told:
                    kinds.add(value[0])
            self.assertEqual(kinds, {plain.kind(machine)})

    def test_one_place_changed(self):
        for machine in machines()[::3] + [CARDS, FIRST, NEWEST, DOWN]:
            for value in plain.changed(verdict(machine)):
                self.assertIs(is_verdict(machine, value), plain_is_verdict(machine, value), value)

    def test_wider_covers(self):
        cover = ((0, 0, 0), (0, 0, 2), (0, 1, 2))
        self.assertIs(is_verdict(DOWN, ("tray", cover)), True)
        self.assertIs(is_verdict(SUMS, ("tray", ((0, 0, 0), (0, 1, 2)))), True)
        self.assertIs(is_verdict(CARDS, ("heavy", (((0, 0, 0), (0, 1, 2)), ((), 0, 0, 1)))), True)

    def test_values_that_are_none(self):
        cover = ((0, 0, 0), (0, 0, 2), (0, 1, 2))
        wrong = (
            None, 0, "tray", (), ("tray",), ["tray", cover], ("tray", list(cover)), ("tray", cover[::-1]),
            ("tray", cover + cover[-1:]), ("tray", cover[1:]), ("tray", cover[:2]), ("tray", ()), ("tray", None),
            ("tray", ([0, 0, 0],) + cover[1:]), ("tray", ((0, 0, False),) + cover[1:]), ("Tray", cover),
            ("tray", ((0, 0, 0), (0, 0, 2), (0, 1, 1), (0, 1, 2))), ("tray", cover, ()), (True, cover),
            ("tray", ((0, 0, 0), (0, 0, 2), (0, 1, 2), (1, 1, 1))), ("heavy", cover), ("blind", cover),
            ("heavy", (cover, ((), 0, 0, 1))), ("blind", (0, 1, 0, ())), ("tray", ((0, 0),) + cover),
        )
        for value in wrong:
            self.assertIs(is_verdict(DOWN, value), False, value)
        load = ((), 0, 0, 1)
        resting = ((0, 1, 2),)
        self.assertIs(is_verdict(CARDS, ("heavy", (resting, load))), True)
        for value in (("heavy", [resting, load]), ("heavy", (list(resting), load)), ("heavy", (resting, list(load))),
                      ("heavy", (([0, 1, 2],), load)), ("heavy", (resting, ([], 0, 0, 1))), ("tray", resting),
                      ("heavy", (load, resting)), ("heavy", (resting, load, ())), ("heavy", (((0, 0, 0),), load)),
                      ("heavy", ((), load)), ("blind", (0, 1, 0, ())), ("heavy", (resting,)), ("heavy", resting),
                      ("heavy", None), ("heavy", (resting, None)), ("heavy", (None, load))):
            self.assertIs(is_verdict(CARDS, value), False, value)

    def test_blind_ones(self):
        for value in (("blind", (0, 1, 0, (0,))), ("blind", (0, 1, 1, (0,))), ("blind", (0, 1, 1, (1, 0)))):
            told = value[1]
            change = plain.ends(FIRST, (told[2],))
            self.assertIs(is_verdict(FIRST, value), is_fault(FIRST, change, (told[0], told[1], told[3])), value)
        self.assertIs(is_verdict(FIRST, verdict(FIRST)), True)
        for value in plain.changed(verdict(FIRST)):
            self.assertIs(is_verdict(FIRST, value), plain_is_verdict(FIRST, value), value)
        for cover in plain.some_of(plain.all_divisions(3)):
            self.assertIs(is_verdict(FIRST, ("tray", cover)), False)

    def test_machines_in_turn(self):
        for _ in range(2):
            self.assertEqual([kind_of(machine) for machine in (NEWEST, CARDS, FIRST)], ["tray", "heavy", "blind"])
            self.assertIs(is_verdict(CARDS, verdict(SUMS)), False)
            self.assertIs(is_verdict(SUMS, verdict(CARDS)), False)


if __name__ == "__main__":
    unittest.main()
