import itertools
import unittest

from lateslips.errors import InvalidRow, Refused
from lateslips.frees import clash, free_commands, is_free
from lateslips.machines import Machine
from tests import plain

NEWEST = Machine(2, [(0, 1), (0, 1)])
SUMS = Machine(1, [(1,), (2,), (0,)])
FIRST = Machine(2, [(1, 2), (1, 1), (2, 2)])


def plain_clash(machine, command, row):
    for state in range(machine.states):
        for x in range(machine.commands):
            one = plain.lead(machine.steps, state, (command, x) + row)
            other = plain.lead(machine.steps, state, (x, command) + row)
            if one != other:
                return (state, x)
    return None


class FreeTest(unittest.TestCase):
    def test_as_shown(self):
        self.assertEqual(clash(NEWEST, 0, ()), (0, 1))
        self.assertIs(is_free(NEWEST, 0, (1,)), True)

    def test_against_plain_reckoning(self):
        for machine in list(plain.some_machines(50, "frees")) + plain.some_sighted(30, "frees"):
            for row in plain.rows(machine.commands, 3):
                wanted = [plain_clash(machine, command, row) for command in range(machine.commands)]
                for command, pair in enumerate(wanted):
                    self.assertEqual(clash(machine, command, list(row)), pair)
                    self.assertIs(is_free(machine, command, row), pair is None)
                free = tuple(command for command, pair in enumerate(wanted) if pair is None)
                self.assertEqual(free_commands(machine, row), free)

    def test_by_names(self):
        self.assertEqual(clash(machine=FIRST, command=1, row=[]), (0, 0))
        self.assertIs(is_free(machine=FIRST, command=1, row=[]), False)
        self.assertEqual(free_commands(machine=SUMS, row=()), (0,))
        self.assertEqual(free_commands(machine=NEWEST, row=[0, 1]), (0, 1))
        self.assertEqual(free_commands(NEWEST, ()), ())

    def test_commands_that_are_none(self):
        for command in plain.NO_NUMBERS + (2,):
            for call in (is_free, clash):
                with self.assertRaises(Refused) as caught:
                    call(NEWEST, command, None)
                self.assertEqual(caught.exception.at, 0)

    def test_rows_that_are_none(self):
        for row, at in ((None, 0), ("0", 0), ([0, True], 1), ((0, 1, 2), 2)):
            for call, arguments in ((is_free, (1, row)), (clash, (1, row)), (free_commands, (row,))):
                with self.assertRaises(InvalidRow) as caught:
                    call(NEWEST, *arguments)
                self.assertEqual(caught.exception.at, at)

    def test_it_hangs_on_the_kernel_only(self):
        for machine in plain.some_machines(30, "frees and kernels"):
            told = {}
            for row in plain.rows(machine.commands, 4):
                free = free_commands(machine, row)
                self.assertEqual(told.setdefault(plain.kernel(machine, row), free), free)

    def test_what_is_free_stays_so(self):
        for machine in plain.deep_sighted(20, "staying free", commands=(2, 2), states=(2, 4)):
            for row in plain.rows(2, 3):
                for place, command in itertools.product(range(len(row) + 1), range(2)):
                    longer = row[:place] + (command,) + row[place:]
                    self.assertLessEqual(set(free_commands(machine, row)), set(free_commands(machine, longer)))

    def test_whole_rows(self):
        for machine in plain.deep_sighted(15, "whole rows", commands=(2, 3), states=(2, 4)):
            for row in plain.rows(machine.commands, 2):
                for command in free_commands(machine, row):
                    for ahead in plain.rows(machine.commands, 3):
                        one = plain.ends(machine, (command,) + ahead + row)
                        self.assertEqual(one, plain.ends(machine, ahead + (command,) + row))


if __name__ == "__main__":
    unittest.main()
