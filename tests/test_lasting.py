import itertools
import unittest

from lateslips.errors import Blind, Heavy
from lateslips.few import greatest_kernel
from lateslips.lasting import again_verdict, is_again_verdict, linked, longest_firm
from lateslips.machines import Machine
from lateslips.rounds import rounds_needed
from lateslips.verdicts import kind_of
from tests import plain
from tests.case import (
    CARDS, CARDS_AND_STOCKS, Case, DOWN, FIRST, LONG, NEWEST, ONE, SUMS, TURN_AND_END, WIDE_HEAVY,
)
from tests.test_verdicts import plain_is_blind


def machines():
    return (
        plain.some_of_kind(15, "lasting", "lasting", plain.kind_again)
        + plain.some_of_kind(15, "lasting", "counting", plain.kind_again)
        + list(plain.some_machines(30, "lasting", states=(1, 4))) + [NEWEST, SUMS, CARDS, DOWN, FIRST, ONE, TURN_AND_END]
    )


def lasting(many, seed, states=(2, 4)):
    return plain.some_of_kind(many, seed, "lasting", plain.kind_again, states=states) + [NEWEST, DOWN, ONE]


def plain_is_counter(machine, value):
    if type(value) is not tuple or len(value) != 3:
        return False
    row, command, state = value
    if not plain.is_row(machine, row) or not plain.is_row(machine, (command,)):
        return False
    if not plain.is_below(state, machine.states):
        return False
    one, other = plain.ends(machine, row), plain.ends(machine, (command,) + row)
    return plain.division(one) == plain.division(other) and one[state] != other[state]


def plain_is_again_verdict(machine, value):
    if type(value) is not tuple or len(value) != 2:
        return False
    kind, told = value
    if kind == "blind":
        return plain_is_blind(machine, told)
    if kind == "counting":
        return (
            type(told) is tuple and len(told) == 2
            and plain.is_cover(machine, told[0]) and plain_is_counter(machine, told[1])
        )
    if kind != "lasting" or not plain.is_cover(machine, told):
        return False
    return all(
        entry[machine.steps[state][command]] == entry[state]
        for entry, command in plain.cover_stays(machine, told) for state in range(machine.states)
    )


def possible_values(machine):
    """All that could be such a verdict of a small machine, with rows of at most two commands."""
    states, commands = range(machine.states), range(machine.commands)
    covers = list(plain.some_of(plain.all_divisions(machine.states)))
    rows = list(plain.rows(machine.commands, 2))
    yield from (("lasting", cover) for cover in covers)
    yield from (("blind", value) for value in itertools.product(states, states, commands, rows))
    counters = list(itertools.product(rows, commands, states))
    yield from (("counting", pair) for pair in itertools.product(covers, counters))


class VerdictTest(Case):
    def test_as_shown(self):
        self.assertIs(is_again_verdict(SUMS, ("counting", (((0, 1, 2),), ((), 0, 1)))), True)

    def test_named_machines(self):
        for machine in (NEWEST, DOWN, ONE, plain.WIDE):
            self.assertEqual(again_verdict(machine)[0], "lasting")
        for machine in (SUMS, CARDS, TURN_AND_END, CARDS_AND_STOCKS, WIDE_HEAVY):
            self.assertEqual(again_verdict(machine)[0], "counting")
        self.assertEqual(again_verdict(machine=FIRST)[0], "blind")

    def test_each_machine_has_one(self):
        for machine in machines() + [LONG, CARDS_AND_STOCKS, WIDE_HEAVY, plain.WIDE]:
            found = again_verdict(machine)
            self.assertIs(is_again_verdict(machine=machine, value=found), True)
            self.assertTrue(plain_is_again_verdict(machine, found))
        for machine in machines():
            self.assertEqual(again_verdict(machine)[0], plain.kind_again(machine))

    def test_all_values_of_small_machines(self):
        small = list(plain.some_machines(25, "all again", commands=(1, 2), states=(1, 3)))
        small += lasting(6, "all again", states=(2, 3))
        for machine in small + [SUMS, NEWEST, FIRST]:
            kinds = set()
            for value in possible_values(machine):
                told = is_again_verdict(machine, value)
                self.assertIs(told, plain_is_again_verdict(machine, value), value)
                if told:
                    kinds.add(value[0])
            self.assertEqual(kinds, {plain.kind_again(machine)})

    def test_one_place_changed(self):
        for machine in machines()[::3] + [CARDS, FIRST, NEWEST, DOWN, SUMS, TURN_AND_END]:
            for value in plain.changed(again_verdict(machine)):
                self.assertIs(is_again_verdict(machine, value), plain_is_again_verdict(machine, value), value)

    def test_values_that_are_none(self):
        resting, counter = ((0, 1, 2),), ((), 0, 1)
        for value in (
            None, 0, "counting", (), ["counting", (resting, counter)], ("counting", [resting, counter]),
            ("counting", (list(resting), counter)), ("counting", (resting, list(counter))), ("counting", counter),
            ("counting", (([0, 1, 2],), counter)), ("counting", (resting, ([], 0, 1))), ("counting", (resting,)),
            ("counting", (resting, ((), False, 1))), ("counting", (resting, ((), 0, True))), ("lasting", resting),
            ("counting", (resting, ((), 0, 3))), ("counting", (resting, ((), 1, 1))), ("counting", (counter, resting)),
            ("counting", (resting, ((0, 0), 0))), ("counting", (((0, 0, 0),), counter)), ("counting", ((), counter)),
            ("blind", (0, 1, 0, ())), ("heavy", (resting, counter)), ("tray", resting), ("lasting", ((0, 0, 0),)),
            ("counting", (resting, counter, ())), ("counting", (resting, None)), ("counting", None), ("lasting", None),
            ("lasting", ((0, 0, 0), (0, 1, 2))),
        ):
            self.assertIs(is_again_verdict(SUMS, value), False, value)
        self.assertIs(is_again_verdict(SUMS, ("counting", (((0, 0, 0), (0, 1, 2)), ((0, 0), 0, 1)))), True)

    def test_counting_behind_rows_only(self):
        # State 3 does what state 0 does, so no command stays at the kernel of the empty row.
        machine = Machine(1, [(1,), (2,), (0,), (1,)])
        kind, (cover, counter) = again_verdict(machine)
        self.assertEqual((kind, cover, counter[:2]), ("counting", ((0, 1, 2, 0), (0, 1, 2, 3)), ((0,), 0)))
        self.assertIs(is_again_verdict(machine, ("counting", (cover, ((),) + counter[1:]))), False)

    def test_lasting_machines_are_tray_machines(self):
        for machine in lasting(20, "tray machines"):
            self.assertEqual(kind_of(machine), "tray")

    def test_a_long_counter(self):
        for many, wanted in ((9999, True), (10000, True)):
            value = ("counting", (((0, 1, 2),), ((0,) * many, 0, 1)))
            self.assertIs(is_again_verdict(SUMS, value), wanted)
        self.assertIs(is_again_verdict(SUMS, ("counting", (((0, 1, 2),), ((0,) * 9999 + (1,), 0, 1)))), False)


class LongestFirmTest(Case):
    def test_as_shown(self):
        self.assertEqual(longest_firm(NEWEST), (0,))

    def test_against_all_rows(self):
        for machine in lasting(60, "firm", states=(2, 5)):
            firm = [
                row for row in plain.rows(machine.commands, plain.most_kept(machine))
                if plain.row_held(machine, row, plain.is_harmless) == row
            ]
            self.assertEqual(longest_firm(machine=machine), min(firm, key=lambda row: (-len(row), row)))

    def test_none_is_longer(self):
        for machine in plain.some_of_kind(12, "none longer", "lasting", plain.kind_again, (2, 2), (2, 4)):
            most = plain.most_kept(machine)
            for row in plain.rows(machine.commands, most + 2):
                if len(row) > most:
                    self.assertNotEqual(plain.row_held(machine, row, plain.is_harmless), row)

    def test_refused(self):
        for machine in machines():
            kind = plain.kind_again(machine)
            if kind == "blind":
                self.fails(Blind, 0, longest_firm, machine)
            if kind == "counting":
                self.fails(Heavy, 0, longest_firm, machine)
        self.fails(Blind, 0, longest_firm, machine=FIRST)

    def test_a_counting_machine_that_is_a_tray_machine(self):
        for machine in (SUMS, TURN_AND_END):
            self.assertEqual(kind_of(machine), "tray")
            self.fails(Heavy, 0, longest_firm, machine)

    def test_only_the_empty_row_is_firm(self):
        for machine in lasting(40, "only the empty row"):
            each = range(machine.commands)
            calm = all(
                plain.ends(machine, (a, x)) == plain.ends(machine, (x, a)) for a, x in itertools.product(each, each)
            ) and all(plain.ends(machine, (a, a)) == plain.ends(machine, (a,)) for a in each)
            self.assertEqual(longest_firm(machine) == (), calm)

    def test_at_the_limits(self):
        self.assertEqual(len(longest_firm(LONG)), 9)
        self.assertEqual(plain.row_held(LONG, longest_firm(LONG), plain.is_harmless), longest_firm(LONG))
        found = longest_firm(plain.WIDE)
        self.assertEqual(plain.row_held(plain.WIDE, found, plain.is_harmless), found)


def plain_linked(machine):
    """The least state of all that are reached, by a search from each state."""
    found = []
    for start in range(machine.states):
        reached = {start}
        for _ in range(machine.states):
            reached |= {end for state in reached for end in machine.steps[state]}
            reached |= {state for state in range(machine.states) if reached & set(machine.steps[state])}
        found.append(min(reached))
    return tuple(found)


class LinkedTest(Case):
    def test_against_a_search(self):
        self.assertEqual(linked(NEWEST), (0, 0))
        for machine in list(plain.some_machines(150, "linked", commands=(1, 2), states=(1, 7))) + machines():
            self.assertEqual(linked(machine=machine), plain_linked(machine))

    def test_named_machines(self):
        self.assertEqual(linked(Machine(1, [(0,), (1,), (2,)])), (0, 1, 2))
        self.assertEqual(linked(Machine(1, [(3,), (1,), (1,), (3,)])), (0, 1, 1, 0))
        self.assertEqual(linked(Machine(1, [(0,)] + [(state - 1,) for state in range(1, 10)])), (0,) * 10)
        self.assertEqual(linked(Machine(1, [(state + 1,) for state in range(9)] + [(9,)])), (0,) * 10)
        self.assertEqual(linked(Machine(1, [(0,), (9,)] + [(state - 1,) for state in range(2, 10)])), (0,) + (1,) * 9)

    def test_it_tells_the_greatest_kernel_of_lasting_machines(self):
        for machine in lasting(40, "greatest kernel", states=(2, 5)) + [plain.WIDE, LONG]:
            self.assertEqual(linked(machine), greatest_kernel(machine))

    def test_rounds_make_all_commands_idle(self):
        for machine in lasting(15, "rounds", states=(2, 4)):
            rounds = itertools.permutations(range(machine.commands))
            for some in itertools.product(list(rounds), repeat=min(rounds_needed(machine), 3)):
                row = sum(some, ())
                if rounds_needed(machine) <= 3:
                    self.assertTrue(all(plain.is_idle(machine, command, row) for command in range(machine.commands)))

    def test_machines_in_turn(self):
        for _ in range(2):
            self.assertEqual([linked(machine) for machine in (SUMS, ONE, NEWEST)], [(0, 0, 0), (0,), (0, 0)])
            self.assertEqual([longest_firm(machine) for machine in (DOWN, ONE, NEWEST)], [(0,), (), (0,)])


if __name__ == "__main__":
    unittest.main()
