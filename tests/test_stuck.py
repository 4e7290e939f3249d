import itertools
import random
import unittest

from lateslips.errors import Blind, Heavy, InvalidQuestion, InvalidRow
from lateslips.machines import Machine
from lateslips.parted import notes_needed, parting
from lateslips.stuck import block_heap, is_stuck, longest_stuck
from lateslips.trays import tray
from tests import plain
from tests.case import (
    CARDS, CARDS_AND_STOCKS, Case, DOWN, FIRST, LONG, NEWEST, NO_ROWS, ONE, SUMS, TURN_AND_END, WIDE_HEAVY,
)

# The newest two commands stand in the state.
LAST_TWO = Machine(2, [(0, 1), (2, 3), (0, 1), (2, 3)])
NO_PLACES = (
    None, 0, "01", {0: 0}, (0,), (0, 1, 2), [0, 4], (4, 0), (0, -1), (True, 0), [0, False], (0, 0.0), (None, 0), (), (0, "1"),
)


def machines():
    return (
        plain.some_of_kind(12, "stuck", "tray") + plain.some_of_kind(6, "stuck", "heavy")
        + list(plain.some_machines(15, "stuck", commands=(2, 2), states=(2, 4)))
        + [NEWEST, SUMS, CARDS, DOWN, FIRST, ONE, TURN_AND_END, LAST_TWO]
    )


def plain_stuck(machine, row):
    return plain.row_held(machine, row, plain.is_free) == tuple(row)


def is_joined(machine):
    """Whether each state is led to each other one by some row."""
    done = plain.effects(machine)
    return all(
        any(ends[state] == other for ends in done) for state in range(machine.states) for other in range(machine.states)
    )


class StuckTest(Case):
    def test_all_short_rows(self):
        for machine in machines():
            for row in plain.rows(machine.commands, 4):
                self.assertIs(is_stuck(machine, list(row)), plain_stuck(machine, row))
                self.assertIs(is_stuck(machine=machine, row=row), plain_stuck(machine, row))

    def test_rows(self):
        for row, at in NO_ROWS:
            for machine in (NEWEST, CARDS, FIRST):
                self.fails(InvalidRow, at, is_stuck, machine, row)

    def test_named_ones(self):
        self.assertIs(is_stuck(NEWEST, ()), True)
        self.assertIs(is_stuck(NEWEST, [0]), True)
        self.assertIs(is_stuck(NEWEST, [0, 1]), False)
        self.assertIs(is_stuck(ONE, [0]), False)
        self.assertIs(is_stuck(FIRST, [0, 1]), plain_stuck(FIRST, [0, 1]))

    def test_long_rows(self):
        self.assertIs(is_stuck(CARDS, [0, 1] * 5000), True)
        self.assertIs(is_stuck(CARDS_AND_STOCKS, [0, 1] * 4999 + [4, 0]), False)
        self.assertIs(is_stuck(CARDS_AND_STOCKS, [4] + [0, 1] * 4999), False)
        self.assertIs(is_stuck(NEWEST, [0, 1] * 5000), False)
        chance = random.Random("stuck")
        blind = Machine(5, [[chance.randrange(10) for _ in range(5)] for _ in range(10)])
        row = [chance.randrange(5) for _ in range(10000)]
        self.assertIn(is_stuck(blind, row), (True, False))

    def test_rows_of_trays_are_stuck(self):
        for machine in machines():
            if not plain.is_blind(machine):
                for row in plain.rows(machine.commands, 5):
                    kept = [command for _, command in tray(machine, list(enumerate(row)))]
                    self.assertIs(is_stuck(machine, kept), True)

    def test_only_the_empty_row(self):
        for machine in plain.some_machines(60, "empty stuck", commands=(2, 3), states=(2, 3)):
            stuck = [row for row in plain.rows(machine.commands, 3) if is_stuck(machine, row)]
            change = all(
                plain.ends(machine, pair) == plain.ends(machine, pair[::-1])
                for pair in itertools.product(range(machine.commands), repeat=2)
            )
            self.assertEqual(stuck == [()], change)


class LongestTest(Case):
    def test_as_shown(self):
        self.assertEqual(longest_stuck(NEWEST), (0,))

    def test_against_all_rows(self):
        for machine in plain.some_of_kind(60, "longest", "tray", states=(2, 5)) + [DOWN, SUMS, ONE, LAST_TWO]:
            stuck = [row for row in plain.rows(machine.commands, plain.most_kept(machine)) if plain_stuck(machine, row)]
            wanted = min(stuck, key=lambda row: (-len(row), row))
            self.assertEqual(longest_stuck(machine=machine), wanted)

    def test_none_is_longer(self):
        for machine in plain.some_of_kind(15, "none longer", "tray", commands=(2, 2), states=(2, 4)):
            most = plain.most_kept(machine)
            for row in plain.rows(machine.commands, most + 2):
                if len(row) > most:
                    self.assertIs(is_stuck(machine, row), False)

    def test_any_length_in_heavy_machines(self):
        for machine in plain.some_of_kind(8, "any length", "heavy", commands=(2, 2), states=(3, 4)):
            stuck = {len(row) for row in plain.rows(machine.commands, 6) if is_stuck(machine, row)}
            self.assertEqual(stuck, set(range(7)))

    def test_refused(self):
        for machine in plain.some_machines(40, "refused", states=(1, 4)):
            if plain.kind(machine) == "blind":
                self.fails(Blind, 0, longest_stuck, machine)
        for machine in plain.some_of_kind(10, "refused", "heavy") + [CARDS, CARDS_AND_STOCKS, WIDE_HEAVY]:
            self.fails(Heavy, 0, longest_stuck, machine)
        self.fails(Blind, 0, longest_stuck, machine=FIRST)

    def test_at_the_limits(self):
        found = longest_stuck(LONG)
        self.assertEqual(len(found), 9)
        self.assertTrue(plain_stuck(LONG, found))
        self.assertEqual(longest_stuck(plain.WIDE), ())
        row = (4,) * 191 + found
        self.assertEqual([slip for slip in enumerate(row)][-9:], list(tray(LONG, list(enumerate(row)))))


class BlockTest(Case):
    def test_all_short_rows(self):
        for row in plain.rows(2, 3):
            for width in range(4):
                for places in itertools.product(range(width), repeat=len(row)):
                    wanted = tuple((at * width + places[at], row[at]) for at in range(len(row)))
                    self.assertEqual(block_heap(CARDS, list(row), list(places), width), wanted)
                    self.assertEqual(block_heap(machine=CARDS, row=row, places=places, width=width), wanted)

    def test_named_ones(self):
        self.assertEqual(block_heap(CARDS, (0, 1), (3, 0), 4), ((3, 0), (4, 1)))
        self.assertEqual(block_heap(CARDS, (0, 1, 1), (0, 0, 0), 1), ((0, 0), (1, 1), (2, 1)))
        self.assertEqual(block_heap(FIRST, (), [], 0), ())
        self.assertEqual(block_heap(FIRST, (), (), 5), ())

    def test_which_error_goes_first(self):
        for row, at in NO_ROWS:
            self.fails(InvalidRow, at, block_heap, CARDS, row, None, 4)
        for places in NO_PLACES:
            self.fails(InvalidQuestion, 2, block_heap, CARDS, [0, 1], places, 4)
        self.fails(InvalidQuestion, 2, block_heap, CARDS, [0], [0], 0)
        self.fails(InvalidQuestion, 2, block_heap, CARDS, [0], [1], 1)
        self.fails(InvalidQuestion, 2, block_heap, CARDS, [], [0], 4)
        self.fails(InvalidQuestion, 2, block_heap, CARDS, [], None, 0)

    def test_blocks_of_stuck_rows_are_parted(self):
        joined = [machine for machine in machines() if is_joined(machine)]
        self.assertGreater(len(joined), 5)
        for machine in joined:
            for row in plain.rows(machine.commands, 3):
                if is_stuck(machine, row):
                    heaps = [
                        block_heap(machine, row, places, 3) for places in itertools.product(range(3), repeat=len(row))
                    ]
                    for state in range(machine.states):
                        self.assertEqual(notes_needed(machine, state, heaps), 3 ** len(row))
                    for one, other in itertools.combinations(heaps[:9], 2):
                        self.assertIsNotNone(parting(machine, 0, one, other))

    def test_few_notes_are_enough_in_tray_machines(self):
        for machine in plain.some_of_kind(10, "few notes", "tray", commands=(2, 2), states=(2, 4)) + [LAST_TWO]:
            heaps = list(plain.heaps(machine.commands, range(5)))
            most = len(longest_stuck(machine))
            few = sum(len(heap) <= most for heap in heaps)
            self.assertLessEqual(notes_needed(machine, 0, heaps), machine.states * few)

    def test_at_the_limits(self):
        row = [0, 1] * 5000
        found = block_heap(CARDS, row, [9] * 10000, 10)
        self.assertEqual(found, tuple((10 * at + 9, at % 2) for at in range(10000)))

    def test_lists_changed_later(self):
        row, places = [0, 1], [3, 0]
        found = block_heap(CARDS, row, places, 4)
        self.assertEqual((row, places), ([0, 1], [3, 0]))
        row.append(1)
        places[0] = 1
        self.assertEqual(found, ((3, 0), (4, 1)))

    def test_machines_in_turn(self):
        for _ in range(2):
            self.assertEqual([longest_stuck(machine) for machine in (NEWEST, SUMS, DOWN)], [(0,), (), ()])
            self.assertEqual([is_stuck(machine, (0, 1)) for machine in (CARDS, NEWEST, LAST_TWO)], [True, False, True])


if __name__ == "__main__":
    unittest.main()
