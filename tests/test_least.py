import itertools
import random
import unittest

from lateslips.errors import Blind, InvalidQuestion, InvalidRow
from lateslips.least import is_meeting, least_rows, meeting
from lateslips.machines import Machine
from tests import plain

DOWN = Machine(2, [(0, 0), (0, 1), (1, 2)])
FIRST = Machine(2, [(1, 2), (1, 1), (2, 2)])


def meet(machine, one, other, row):
    return plain.lead(machine.steps, one, row) == plain.lead(machine.steps, other, row)


def is_least(machine, one, other, row):
    parts = [part for part in plain.parts(row) if len(part) < len(row)]
    return meet(machine, one, other, row) and not any(meet(machine, one, other, part) for part in parts)


def machines():
    return plain.deep_sighted(25, "least", commands=(1, 3), states=(2, 5)) + plain.some_sighted(15, "least")


def pairs_of(machine):
    return itertools.product(range(machine.states), repeat=2)


class QuestionsTest(unittest.TestCase):
    def calls(self, machine, one, other, row):
        for call, rest in ((least_rows, ()), (meeting, (row,)), (is_meeting, (row, None))):
            yield lambda: call(machine, one, other, *rest)

    def test_blind_goes_first(self):
        for call in self.calls(FIRST, None, None, None):
            with self.assertRaises(Blind) as caught:
                call()
            self.assertEqual(caught.exception.at, 0)

    def test_states(self):
        for state in plain.NO_NUMBERS + (3,):
            for one, other, at in ((state, 0, 1), (0, state, 2), (state, state, 1), (state, None, 1), (2, state, 2)):
                for call in self.calls(DOWN, one, other, None):
                    with self.assertRaises(InvalidQuestion) as caught:
                        call()
                    self.assertEqual(caught.exception.at, at)

    def test_rows(self):
        for row, at in ((None, 0), ([0, True], 1), ((0, 1, 2), 2)):
            with self.assertRaises(InvalidRow) as caught:
                meeting(DOWN, 0, 1, row)
            self.assertEqual(caught.exception.at, at)
            with self.assertRaises(InvalidRow) as caught:
                is_meeting(DOWN, 0, 1, row, None)
            self.assertEqual(caught.exception.at, at)


class LeastRowsTest(unittest.TestCase):
    def test_as_shown(self):
        self.assertEqual(least_rows(DOWN, 2, 0), ((0, 0),))
        self.assertEqual(least_rows(machine=DOWN, one=1, other=1), ((),))

    def test_against_plain_reckoning(self):
        for machine in machines():
            longest = plain.most_kept(machine) + 1
            for one, other in pairs_of(machine):
                wanted = [row for row in plain.rows(machine.commands, longest) if is_least(machine, one, other, row)]
                self.assertEqual(least_rows(machine, one, other), tuple(sorted(wanted)))

    def test_two_classes(self):
        self.assertEqual(least_rows(Machine(2, [(1, 0), (0, 1)]), 0, 1), ())

    def test_a_row_meets_exactly_if_a_least_one_is_a_part(self):
        for machine in machines()[:20]:
            for one, other in pairs_of(machine):
                least = set(least_rows(machine, one, other))
                for row in plain.rows(machine.commands, 4):
                    self.assertEqual(meet(machine, one, other, row), any(part in least for part in plain.parts(row)))

    def test_the_greatest_that_are_promised(self):
        two = Machine(2, [(max(state - 1, 0), max(state - 2, 0)) for state in range(10)])
        rows = least_rows(two, 0, 9)
        wanted = [row for row in plain.rows(2, 9) if meet(two, 0, 9, row) and is_least(two, 0, 9, row)]
        self.assertEqual(rows, tuple(sorted(wanted)))
        six = Machine(5, [[max(state - 1, 0)] * 5 for state in range(6)])
        self.assertEqual(least_rows(six, 5, 0), tuple(itertools.product(range(5), repeat=5)))


class MeetingTest(unittest.TestCase):
    def test_as_shown(self):
        self.assertEqual(meeting(DOWN, 0, 1, [1, 0, 1]), (1,))

    def test_all_short_rows(self):
        for machine in machines():
            for row in plain.rows(machine.commands, 4):
                for one, other in pairs_of(machine):
                    found = meeting(machine, one, other, row)
                    if meet(machine, one, other, row):
                        self.check(machine, one, other, row, found)
                    else:
                        self.assertIsNone(found)

    def check(self, machine, one, other, row, found):
        self.assertIs(type(found), tuple)
        self.assertEqual(found, tuple(sorted(set(found))))
        self.assertTrue(is_least(machine, one, other, [row[index] for index in found]))
        self.assertIs(is_meeting(machine, one, other, row, found), True)

    def test_equal_states_and_empty_rows(self):
        self.assertEqual(meeting(machine=DOWN, one=1, other=1, row=[0, 0]), ())
        self.assertEqual(meeting(DOWN, 1, 1, ()), ())
        self.assertIsNone(meeting(DOWN, 0, 1, ()))

    def test_long_rows(self):
        chance = random.Random("long")
        row = [chance.randrange(5) for _ in range(10000)]
        for other in range(1, 10):
            self.check(plain.WIDE, 0, other, row, meeting(plain.WIDE, 0, other, row))
        self.assertIs(is_meeting(plain.WIDE, 0, 9, row, tuple(range(10000))), False)


class IsMeetingTest(unittest.TestCase):
    def test_all_short_rows(self):
        for machine in plain.deep_sighted(12, "is meeting", commands=(2, 2), states=(2, 4)):
            for row in plain.rows(2, 4):
                for one, other in pairs_of(machine):
                    for value in plain.parts(range(len(row))):
                        wanted = is_least(machine, one, other, [row[index] for index in value])
                        self.assertEqual(is_meeting(machine, one, other, list(row), value), wanted)

    def test_values_that_are_none(self):
        row = (0, 0, 1, 0)
        self.assertIs(is_meeting(machine=DOWN, one=0, other=2, row=row, value=(0, 3)), True)
        for value in (None, 0, [0, 3], (3, 0), (0, 0), (False, 3), (0, True), (0, 4), (-4, 3), (0, 1, 3), (0,), (0, 2),
                      (), (0, None), "03", (0.0, 3)):
            self.assertIs(is_meeting(DOWN, 0, 2, row, value), False, value)
        self.assertIs(is_meeting(DOWN, 1, 1, row, ()), True)
        self.assertIs(is_meeting(DOWN, 1, 1, row, (0,)), False)


if __name__ == "__main__":
    unittest.main()
