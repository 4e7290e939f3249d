import random
import unittest

from lateslips.errors import InvalidRow, InvalidSlip, Refused
from lateslips.frees import is_free
from lateslips.harmless import firm_tray, is_harmless
from lateslips.machines import Machine
from tests import plain
from tests.case import (
    CARDS, CARDS_AND_STOCKS, Case, DOWN, FIRST, LONG, NEWEST, NO_COMMANDS, NO_HEAPS, NO_ROWS, ONE, SUMS, TURN_AND_END,
)

TIMES = (0, 2, 3, 7)


def machines():
    """Machines of all kinds."""
    return (
        plain.some_of_kind(10, "harmless", "lasting", plain.kind_again)
        + plain.some_of_kind(10, "harmless", "counting", plain.kind_again)
        + list(plain.some_machines(12, "harmless", commands=(2, 2), states=(2, 4)))
        + [NEWEST, SUMS, CARDS, DOWN, FIRST, ONE, TURN_AND_END]
    )


class HarmlessTest(Case):
    def test_all_short_rows(self):
        for machine in machines():
            for row in plain.rows(machine.commands, 3):
                for command in range(machine.commands):
                    wanted = plain.is_harmless(machine, command, row)
                    self.assertIs(is_harmless(machine, command, list(row)), wanted)
                    self.assertIs(is_harmless(machine=machine, command=command, row=row), wanted)

    def test_free_but_not_harmless(self):
        self.assertIs(is_free(SUMS, 0, ()), True)
        self.assertIs(is_harmless(SUMS, 0, ()), False)
        self.assertIs(is_harmless(DOWN, 0, ()), False)
        self.assertIs(is_harmless(DOWN, 0, (0, 0)), True)
        self.assertIs(is_harmless(DOWN, 1, ()), True)

    def test_twice_is_once_but_not_free(self):
        self.assertIs(is_harmless(NEWEST, 0, ()), False)
        self.assertIs(is_harmless(NEWEST, 0, (1,)), True)

    def test_idle_but_not_free_in_a_blind_machine(self):
        some = []
        for machine in plain.some_machines(100, "idle, not free", commands=(2, 2), states=(3, 4)):
            for command, row in all_places(machine):
                if plain.is_idle(machine, command, row) and not plain.is_free(machine, command, row):
                    self.assertTrue(plain.is_blind(machine))
                    self.assertIs(is_harmless(machine, command, row), False)
                    some.append(row)
        self.assertGreater(len(some), 3)

    def test_which_error_goes_first(self):
        for command in NO_COMMANDS:
            for row in (None, (), (0, 5)):
                self.fails(Refused, 0, is_harmless, NEWEST, command, row)
        for row, at in NO_ROWS:
            self.fails(InvalidRow, at, is_harmless, NEWEST, 1, row)

    def test_idle_commands_are_harmless(self):
        for machine in machines():
            if not plain.is_blind(machine):
                for command, row in all_places(machine):
                    if plain.is_idle(machine, command, row):
                        self.assertIs(is_harmless(machine, command, row), True)

    def test_what_is_harmless_stays_so(self):
        for machine in machines():
            if plain.is_blind(machine):
                continue
            for command, row in all_places(machine):
                if is_harmless(machine, command, row):
                    for place in range(len(row) + 1):
                        for more in range(machine.commands):
                            self.assertIs(is_harmless(machine, command, row[:place] + (more,) + row[place:]), True)

    def test_long_rows(self):
        self.assertIs(is_harmless(SUMS, 0, (0,) * 10000), False)
        self.assertIs(is_harmless(CARDS_AND_STOCKS, 2, (2, 3) * 5000), True)
        self.assertIs(is_harmless(CARDS_AND_STOCKS, 2, (3, 4) * 5000), False)

    def test_machines_in_turn(self):
        for _ in range(2):
            self.assertEqual([is_harmless(machine, 0, ()) for machine in (ONE, SUMS, NEWEST)], [True, False, False])


def all_places(machine):
    for row in plain.rows(machine.commands, 2):
        for command in range(machine.commands):
            yield command, row


class FirmTrayTest(Case):
    def test_all_small_heaps(self):
        for machine in machines():
            for heap in plain.heaps(machine.commands, TIMES):
                wanted = plain.held(machine, heap, plain.is_harmless)
                self.assertEqual(firm_tray(machine, heap), wanted)
                self.assertEqual(firm_tray(machine=machine, heap=list(heap[::-1])), wanted)

    def test_kinds(self):
        self.assertEqual(firm_tray(SUMS, [(5, 0), (1, 0)]), ((1, 0), (5, 0)))
        self.assertEqual(firm_tray(NEWEST, [(5, 0), (7, 1), (1, 0)]), ((7, 1),))
        self.assertEqual(firm_tray(DOWN, [(5, 0), (6, 0), (7, 0), (8, 1)]), ((7, 0),))
        self.assertEqual((firm_tray(ONE, [(5, 0)]), firm_tray(FIRST, ())), ((), ()))

    def test_heaps_that_are_none(self):
        for value, at in NO_HEAPS:
            for machine in (NEWEST, FIRST):
                self.fails(InvalidSlip, at, firm_tray, machine, value)

    def test_the_row_of_a_firm_tray_is_firm(self):
        for machine in machines():
            if not plain.is_blind(machine):
                for heap in plain.heaps(machine.commands, TIMES):
                    found = firm_tray(machine, heap)
                    self.assertEqual(firm_tray(machine, found), found)
                    self.assertLessEqual(set(plain.tray(machine, heap)), set(found))

    def test_at_the_limits(self):
        chance = random.Random("firm")
        for machine in (LONG, CARDS_AND_STOCKS, plain.WIDE):
            heap = [(5 * time, chance.randrange(5)) for time in range(200)]
            chance.shuffle(heap)
            self.assertEqual(firm_tray(machine, heap), plain.held(machine, heap, plain.is_harmless))

    def test_a_heap_changed_later(self):
        heap = [(5, 0), (1, 0)]
        found = firm_tray(SUMS, heap)
        self.assertEqual(heap, [(5, 0), (1, 0)])
        heap.clear()
        self.assertEqual(found, ((1, 0), (5, 0)))


if __name__ == "__main__":
    unittest.main()
