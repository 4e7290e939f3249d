import itertools
import unittest

from lateslips.errors import InvalidRow
from lateslips.kernels import is_within, kernel, kernels, row_of_kernel
from lateslips.machines import Machine
from tests import plain

NEWEST = Machine(2, [(0, 1), (0, 1)])


class KernelTest(unittest.TestCase):
    def test_as_shown(self):
        self.assertEqual(kernel(NEWEST, (1,)), (0, 0))
        self.assertEqual(kernels(NEWEST), ((0, 0), (0, 1)))

    def test_against_plain_reckoning(self):
        for machine in plain.some_machines(60, "kernels"):
            for row in plain.rows(machine.commands, 3):
                self.assertEqual(kernel(machine, list(row)), plain.kernel(machine, row))
            self.assertEqual(kernels(machine), plain.kernels(machine))

    def test_rows_are_refused(self):
        for value, at in ((None, 0), ([0, True], 1), ((0, 1, 2), 2)):
            with self.assertRaises(InvalidRow) as caught:
                kernel(machine=NEWEST, row=value)
            self.assertEqual(caught.exception.at, at)

    def test_the_empty_row(self):
        self.assertEqual(kernel(NEWEST, []), (0, 1))
        self.assertEqual(row_of_kernel(NEWEST, (0, 1)), ())

    def test_one_to_one(self):
        turn = Machine(1, [(1,), (2,), (0,)])
        self.assertEqual(kernels(turn), ((0, 1, 2),))

    def test_all_kernels_of_ten_states(self):
        turn = [(state + 1) % 10 for state in range(10)]
        swap = [1, 0] + list(range(2, 10))
        join = [0, 0] + list(range(2, 10))
        found = kernels(Machine(3, list(zip(turn, swap, join))))
        self.assertEqual(len(found), 115975)
        self.assertEqual((found[0], found[-1]), ((0,) * 10, tuple(range(10))))


class RowOfKernelTest(unittest.TestCase):
    def first_rows(self, machine):
        """The first of the shortest rows with each kernel: every row up to a length that is enough."""
        found = {}
        wanted = set(plain.kernels(machine))
        for length in itertools.count():
            for row in itertools.product(range(machine.commands), repeat=length):
                found.setdefault(plain.kernel(machine, row), row)
            if wanted == set(found):
                return found

    def test_the_first_of_the_shortest(self):
        for machine in plain.some_machines(60, "rows of kernels", commands=(1, 3), states=(1, 4)):
            for value, row in self.first_rows(machine).items():
                self.assertEqual(row_of_kernel(machine, value), row)

    def test_every_tuple(self):
        for machine in plain.some_machines(20, "no kernels", commands=(1, 2), states=(1, 3)):
            found = plain.kernels(machine)
            for value in itertools.product(range(machine.states + 1), repeat=machine.states):
                self.assertEqual(row_of_kernel(machine, value) is not None, value in found, value)

    def test_no_kernels(self):
        for value in (None, 0, [0, 0], (0,), (0, 0, 0), (1, 1), (0, True), (0, False), ([0], 0), "00", (False, 0)):
            self.assertIsNone(row_of_kernel(machine=NEWEST, value=value))

    def test_a_kernel_of_no_row(self):
        self.assertIsNone(row_of_kernel(Machine(1, [(0,), (0,), (2,)]), (0, 1, 1)))
        self.assertIsNone(row_of_kernel(Machine(1, [(1,), (0,)]), (0, 0)))


class IsWithinTest(unittest.TestCase):
    def test_all_divisions_of_four(self):
        divisions = sorted({plain.division(labels) for labels in itertools.product(range(4), repeat=4)})
        for one in divisions:
            for other in divisions:
                self.assertEqual(is_within(one, other), plain.within(one, other), (one, other))

    def test_by_names(self):
        self.assertIs(is_within(one=(0, 1), other=(0, 0)), True)
        self.assertIs(is_within(one=(0, 0), other=(0, 1)), False)

    def test_a_row_behind_brings_more_together(self):
        for machine in plain.some_machines(20, "rows behind", states=(2, 4)):
            for one in plain.rows(machine.commands, 2):
                for other in plain.rows(machine.commands, 2):
                    self.assertTrue(is_within(kernel(machine, one), kernel(machine, one + other)))


if __name__ == "__main__":
    unittest.main()
