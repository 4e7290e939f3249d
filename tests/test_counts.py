import itertools
import unittest

from lateslips.counts import meeting_rows, nth_row, rows_with_kernel
from lateslips.errors import Blind, InvalidQuestion
from lateslips.kernels import kernels
from lateslips.machines import Machine
from tests import plain
from tests.test_ladders import NO_KERNELS, plain_ladder

DOWN = Machine(2, [(0, 0), (0, 1), (1, 2)])
FIRST = Machine(2, [(1, 2), (1, 1), (2, 2)])


def machines():
    return plain.deep_sighted(20, "counts") + plain.some_sighted(10, "counts")


def counts_by_squaring(rungs, length, modulus):
    """How many rows of the length have each kernel: the powers of the matrix of the ladder."""
    size = range(len(rungs))
    power = [[entry.count(ahead) for ahead in size] for entry in rungs]
    row = [0] * (len(rungs) - 1) + [1]
    while length:
        if length & 1:
            row = [sum(row[k] * power[k][j] for k in size) % modulus for j in size]
        power = [[sum(power[i][k] * power[k][j] for k in size) % modulus for j in size] for i in size]
        length >>= 1
    return [many % modulus for many in row]


class QuestionsTest(unittest.TestCase):
    def fails(self, error, at, call, *arguments, **named):
        with self.assertRaises(error) as caught:
            call(*arguments, **named)
        self.assertEqual(caught.exception.at, at)

    def test_blind_goes_first(self):
        for modulus in (None, 1, 7):
            self.fails(Blind, 0, rows_with_kernel, FIRST, 3, None, modulus=modulus)
            self.fails(Blind, 0, meeting_rows, FIRST, 3, None, None, modulus=modulus)
        self.fails(Blind, 0, nth_row, FIRST, 3, None, None)
        self.fails(Blind, 0, nth_row, FIRST, 3, (0, 1, 2), 0)

    def test_kernels(self):
        for value in NO_KERNELS:
            self.fails(InvalidQuestion, 2, rows_with_kernel, DOWN, 3, value)
            self.fails(InvalidQuestion, 2, rows_with_kernel, DOWN, 10 ** 18, value, modulus=9)
            self.fails(InvalidQuestion, 2, nth_row, DOWN, 3, value, None)

    def test_states(self):
        for state in plain.NO_NUMBERS + (3,):
            for modulus in (None, 5):
                self.fails(InvalidQuestion, 2, meeting_rows, DOWN, 3, state, 0, modulus=modulus)
                self.fails(InvalidQuestion, 2, meeting_rows, DOWN, 3, state, state, modulus=modulus)
                self.fails(InvalidQuestion, 3, meeting_rows, DOWN, 3, 0, state, modulus=modulus)

    def test_indexes(self):
        for number in plain.NO_NUMBERS + (3, 10 ** 20):
            self.fails(InvalidQuestion, 3, nth_row, DOWN, 3, (0, 0, 2), number)
        self.fails(InvalidQuestion, 3, nth_row, DOWN, 0, (0, 0, 2), 0)


class CountsTest(unittest.TestCase):
    def test_as_shown(self):
        self.assertEqual(rows_with_kernel(DOWN, 5, (0, 0, 2)), 5)
        self.assertEqual(meeting_rows(DOWN, 3, 0, 2), 4)
        self.assertEqual(nth_row(DOWN, 3, (0, 0, 2), 1), (1, 0, 1))
        self.assertEqual(rows_with_kernel(DOWN, 10 ** 18, (0, 0, 0), modulus=1000), 375)

    def test_all_short_rows(self):
        for machine in machines():
            for length in range(5):
                rows = list(itertools.product(range(machine.commands), repeat=length))
                for value in plain.kernels(machine):
                    wanted = sum(plain.kernel(machine, row) == value for row in rows)
                    self.assertEqual(rows_with_kernel(machine, length, value), wanted)
                    for modulus in (1, 2, 3, 2 ** 31):
                        self.assertEqual(rows_with_kernel(machine, length, value, modulus=modulus), wanted % modulus)

    def test_pairs_in_short_rows(self):
        for machine in machines():
            for length in range(4):
                rows = list(itertools.product(range(machine.commands), repeat=length))
                for one, other in itertools.product(range(machine.states), repeat=2):
                    wanted = sum(plain.kernel(machine, row)[one] == plain.kernel(machine, row)[other] for row in rows)
                    self.assertEqual(meeting_rows(machine, length, one, other), wanted)
                    for modulus in (1, 2, 3, 2 ** 31):
                        found = meeting_rows(machine, length, one, other, modulus=modulus)
                        self.assertEqual(found, wanted % modulus)

    def test_long_rows(self):
        for machine in machines()[:12]:
            rungs = plain_ladder(machine)
            for length in (10, 50, 199, 10 ** 9, 10 ** 18 - 1, 10 ** 18):
                for modulus in (1, 2, 1000, 2 ** 31 - 1, 2 ** 31):
                    self.compare(machine, length, modulus, counts_by_squaring(rungs, length, modulus))

    def compare(self, machine, length, modulus, counts):
        each = plain.kernels(machine)
        for value, many in zip(each, counts):
            self.assertEqual(rows_with_kernel(machine, length, value, modulus=modulus), many)
        last = machine.states - 1
        wanted = sum(many for value, many in zip(each, counts) if value[0] == value[last])
        self.assertEqual(meeting_rows(machine, length, 0, last, modulus=modulus), wanted % modulus)

    def test_two_hundred_without_a_modulus(self):
        for machine in machines() + [plain.WIDE]:
            each = kernels(machine)
            counts = [rows_with_kernel(machine, 200, value) for value in each]
            self.assertEqual(sum(counts), machine.commands ** 200)
            for value, many in zip(each[:3], counts):
                self.assertEqual(rows_with_kernel(machine, 200, value, modulus=2 ** 31), many % 2 ** 31)
            self.assertEqual(meeting_rows(machine, 200, 0, 0), machine.commands ** 200)

    def test_two_classes(self):
        turn = Machine(2, [(1, 0), (0, 1)])
        for length in (0, 7, 10 ** 18):
            self.assertEqual(meeting_rows(turn, length, 0, 1, modulus=7), 0)
        self.assertEqual(meeting_rows(turn, 100, 0, 1), 0)
        self.assertEqual(meeting_rows(turn, 10 ** 18, 1, 1, modulus=5), pow(2, 10 ** 18, 5))

    def test_a_kernel_that_no_long_row_has(self):
        low = Machine(1, [(0,), (0,), (1,)])
        self.assertEqual([rows_with_kernel(low, length, (0, 0, 2)) for length in range(4)], [0, 1, 0, 0])
        for length, many in ((0, 0), (1, 1), (2, 0), (10 ** 18, 0)):
            self.assertEqual(rows_with_kernel(low, length, (0, 0, 2), modulus=9), many)
        self.assertEqual(rows_with_kernel(low, 10 ** 18, (0, 0, 0), modulus=9), 1)

    def test_by_names(self):
        self.assertEqual(rows_with_kernel(machine=DOWN, length=5, kernel=(0, 0, 2), modulus=None), 5)
        self.assertEqual(meeting_rows(machine=DOWN, length=3, one=0, other=2, modulus=3), 1)
        self.assertEqual(nth_row(machine=DOWN, length=3, kernel=(0, 0, 2), number=0), (0, 1, 1))


class NthRowTest(unittest.TestCase):
    def test_all_short_rows(self):
        for machine in machines():
            for length in range(5):
                rows = list(itertools.product(range(machine.commands), repeat=length))
                for value in plain.kernels(machine):
                    wanted = [row for row in rows if plain.kernel(machine, row) == value]
                    found = [nth_row(machine, length, value, number) for number in range(len(wanted))]
                    self.assertEqual(found, wanted)
                    with self.assertRaises(InvalidQuestion):
                        nth_row(machine, length, value, len(wanted))

    def test_rows_of_two_hundred(self):
        for machine in (DOWN, plain.WIDE):
            for value in kernels(machine)[:3]:
                many = rows_with_kernel(machine, 200, value)
                numbers = sorted({0, many // 3, many // 2, many - 1})
                rows = [nth_row(machine, 200, value, number) for number in numbers]
                self.assertEqual(rows, sorted(set(rows)))
                for row in rows:
                    self.assertEqual((len(row), plain.kernel(machine, row)), (200, value))


if __name__ == "__main__":
    unittest.main()
