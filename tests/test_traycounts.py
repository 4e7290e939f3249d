import itertools
import random
import unittest
from collections import Counter

from lateslips.errors import Blind, Heavy, InvalidRow
from lateslips.machines import Machine
from lateslips.traycounts import rows_with_tray, tray_sizes
from tests import plain
from tests.case import (
    CARDS, CARDS_AND_STOCKS, Case, DOWN, FIRST, LONG, NEWEST, NO_ROWS, ONE, SUMS, TURN_AND_END, WIDE_HEAVY,
)


def machines():
    return (
        plain.some_of_kind(12, "tray counts", "tray", commands=(2, 2)) + plain.some_of_kind(6, "tray counts", "heavy")
        + plain.some_sighted(6, "tray counts") + [NEWEST, CARDS, DOWN, TURN_AND_END]
    )


def trays_of(machine, length):
    """How many rows of the length have each tray."""
    rows = itertools.product(range(machine.commands), repeat=length)
    return Counter(plain.row_held(machine, row, plain.is_free) for row in rows)


def places_read(machine):
    """For each kernel and command: whether the command is free behind it, and the kernel ahead."""
    found = {}
    for row in plain.effects(machine).values():
        found[plain.kernel(machine, row)] = [
            (plain.is_free(machine, command, row), plain.kernel(machine, (command,) + row))
            for command in range(machine.commands)
        ]
    return found


def counts_by_squaring(machine, length, fits, most, modulus):
    """How many rows have trays of 0, 1, .., most commands; `fits(place from the end, command)` tells which may."""
    read = places_read(machine)
    nodes = [(value, size) for value in read for size in range(most + 1)]
    index = {node: place for place, node in enumerate(nodes)}
    power = [[0] * len(nodes) for _ in nodes]
    for value, size in nodes:
        for command, (free, ahead) in enumerate(read[value]):
            if free:
                power[index[(value, size)]][index[(ahead, size)]] += 1
            elif size < most and fits(size, command):
                power[index[(value, size)]][index[(ahead, size + 1)]] += 1
    row = [int(node == (tuple(range(machine.states)), 0)) for node in nodes]
    while length:
        if length & 1:
            row = [sum(one * entry[place] for one, entry in zip(row, power)) % modulus for place in range(len(nodes))]
        columns = list(zip(*power))
        power = [[sum(map(int.__mul__, entry, column)) % modulus for column in columns] for entry in power]
        length >>= 1
    return [sum(many for many, node in zip(row, nodes) if node[1] == size) % modulus for size in range(most + 1)]


class RefusedTest(Case):
    def test_blind_goes_first(self):
        for modulus in (None, 1, 7):
            for row in (None, (), (0,), [5]):
                self.fails(Blind, 0, rows_with_tray, FIRST, 3, row, modulus=modulus)
            self.fails(Blind, 0, tray_sizes, FIRST, 3, modulus=modulus)

    def test_heavy(self):
        for machine in (CARDS, CARDS_AND_STOCKS, WIDE_HEAVY, *plain.some_of_kind(10, "heavy sizes", "heavy")):
            self.fails(Heavy, 0, tray_sizes, machine, 3)
            self.fails(Heavy, 0, tray_sizes, machine, 10 ** 18, modulus=7)

    def test_rows(self):
        for row, at in NO_ROWS:
            for machine in (NEWEST, CARDS):
                self.fails(InvalidRow, at, rows_with_tray, machine, 4, row)
                self.fails(InvalidRow, at, rows_with_tray, machine, 1, row, modulus=9)
        self.fails(InvalidRow, 0, rows_with_tray, NEWEST, 0, [2, 0])

    def test_the_modulus_is_passed_by_name(self):
        self.by_name_alone(rows_with_tray, NEWEST, 4, (1,), 7)
        self.by_name_alone(tray_sizes, NEWEST, 4, 7)


class CountsTest(Case):
    def test_as_shown(self):
        self.assertEqual(rows_with_tray(NEWEST, 4, (1,)), 8)
        self.assertEqual(tray_sizes(NEWEST, 4), (0, 16))
        self.assertEqual(tray_sizes(NEWEST, 10 ** 18, modulus=7), (0, 2))

    def test_all_short_rows(self):
        for machine in machines():
            for length in range(5):
                counts = trays_of(machine, length)
                for row in plain.rows(machine.commands, min(length + 1, 4)):
                    self.assertEqual(rows_with_tray(machine, length, list(row)), counts[row])
                    for modulus in (1, 2, 3, 2 ** 31):
                        found = rows_with_tray(machine, length, row, modulus=modulus)
                        self.assertEqual(found, counts[row] % modulus)

    def test_sizes_of_all_short_rows(self):
        for machine in plain.some_of_kind(25, "sizes", "tray") + [NEWEST, DOWN, SUMS, ONE]:
            for length in range(5):
                sizes = Counter()
                for row, many in trays_of(machine, length).items():
                    sizes[len(row)] += many
                wanted = tuple(sizes[size] for size in range(plain.most_kept(machine) + 1))
                self.assertEqual(tray_sizes(machine, length), wanted)
                self.assertEqual(sum(wanted), machine.commands ** length)
                for modulus in (1, 2, 3, 2 ** 31):
                    found = tray_sizes(machine=machine, length=length, modulus=modulus)
                    self.assertEqual(found, tuple(many % modulus for many in wanted))
                    self.assertIs(type(found), tuple)

    def test_long_rows(self):
        for machine in machines():
            rows = sorted(trays_of(machine, 3)) + [(0, 0, 0, 0)]
            for row in rows[:3] + rows[-3:]:
                for length, modulus in ((9, 1000), (200, 2 ** 31), (10 ** 18 - 1, 2 ** 31 - 1), (10 ** 18, 12)):
                    wanted = counts_by_squaring(
                        machine, length, lambda place, command: row[::-1][place] == command, len(row), modulus)
                    self.assertEqual(rows_with_tray(machine, length, row, modulus=modulus), wanted[-1])

    def test_sizes_of_long_rows(self):
        for machine in plain.some_of_kind(20, "long sizes", "tray") + [NEWEST, DOWN]:
            most = plain.most_kept(machine)
            for length, modulus in ((9, 1000), (200, 2 ** 31), (10 ** 18 - 1, 2 ** 31 - 1), (10 ** 18, 12)):
                wanted = counts_by_squaring(machine, length, lambda place, command: True, most, modulus)
                self.assertEqual(tray_sizes(machine, length, modulus=modulus), tuple(wanted))

    def test_the_empty_row(self):
        self.assertEqual(rows_with_tray(NEWEST, 0, ()), 1)
        self.assertEqual(rows_with_tray(NEWEST, 0, [], modulus=1), 0)
        self.assertEqual(rows_with_tray(NEWEST, 1, ()), 0)
        self.assertEqual(rows_with_tray(SUMS, 10 ** 18, (), modulus=5), 1)
        self.assertEqual(rows_with_tray(DOWN, 10 ** 18, (), modulus=5), pow(2, 10 ** 18, 5))
        self.assertEqual((tray_sizes(ONE, 5), tray_sizes(DOWN, 3), tray_sizes(SUMS, 7)), ((1,), (8, 0, 0), (1,)))
        self.assertEqual(tray_sizes(NEWEST, 0), (1, 0))

    def test_a_row_that_is_no_tray(self):
        self.assertEqual(rows_with_tray(NEWEST, 5, (1, 1)), 0)
        self.assertEqual(rows_with_tray(NEWEST, 10 ** 18, (1, 1), modulus=7), 0)
        self.assertEqual(rows_with_tray(NEWEST, 0, (1,)), 0)
        self.assertEqual(rows_with_tray(CARDS, 3, [0] * 60), 0)

    def test_heavy_machines_keep_all(self):
        for row in plain.rows(2, 5):
            self.assertEqual(rows_with_tray(CARDS, len(row), row), 1)
            self.assertEqual(rows_with_tray(CARDS, 10 ** 18, row, modulus=9), 0)

    def test_fifty_commands(self):
        chance = random.Random("fifty")
        row = tuple(chance.randrange(2) for _ in range(50))
        for length in (49, 50, 51, 53, 200):
            # All cards are held, while the three other commands are free.
            many = rows_with_tray(CARDS_AND_STOCKS, length, row)
            self.assertEqual(many, binomial(length, 50) * 3 ** (length - 50) if length >= 50 else 0)
            for modulus in (1000, 2 ** 31):
                self.assertEqual(rows_with_tray(CARDS_AND_STOCKS, length, row, modulus=modulus), many % modulus)
        found = rows_with_tray(machine=CARDS_AND_STOCKS, length=10 ** 18, row=row, modulus=2 ** 31)
        self.assertEqual(found, binomial(10 ** 18, 50) * pow(3, 10 ** 18 - 50, 2 ** 31) % 2 ** 31)

    def test_at_the_limits(self):
        for machine in (LONG, plain.WIDE):
            found = tray_sizes(machine, 200)
            self.assertEqual((len(found), sum(found)), (10, 5 ** 200))
            self.assertEqual(tray_sizes(machine, 200, modulus=2 ** 31), tuple(many % 2 ** 31 for many in found))
            self.assertEqual(sum(tray_sizes(machine, 10 ** 18, modulus=1009)) % 1009, pow(5, 10 ** 18, 1009))
        for row in ((), (0, 1), (1, 0), (1, 3, 4, 4, 4)):
            many = rows_with_tray(WIDE_HEAVY, 200, row)
            self.assertEqual(rows_with_tray(WIDE_HEAVY, 200, row, modulus=2 ** 31), many % 2 ** 31)
        self.assertEqual(rows_with_tray(CARDS, 200, [0, 1] * 100), 1)

    def test_a_row_changed_later(self):
        row = [1]
        self.assertEqual(rows_with_tray(NEWEST, 4, row), 8)
        self.assertEqual(row, [1])
        row.append(0)
        self.assertEqual(rows_with_tray(NEWEST, 4, row), 0)

    def test_machines_in_turn(self):
        for _ in range(2):
            self.assertEqual(rows_with_tray(NEWEST, 2, (1,)), 2)
            self.assertEqual(rows_with_tray(Machine(2, [(0, 0), (1, 1)]), 2, (1,)), 0)
            self.assertEqual(rows_with_tray(CARDS, 2, (1, 1)), 1)


def binomial(length, many):
    found = 1
    for place in range(many):
        found = found * (length - place) // (place + 1)
    return found


if __name__ == "__main__":
    unittest.main()
