import unittest

from lateslips.errors import Blind, InvalidSlip, Refused
from lateslips.machines import Machine
from lateslips.views import answers, beginnings, told
from tests import plain

FIRST = Machine(2, [(1, 2), (1, 1), (2, 2)])
NEWEST = Machine(2, [(0, 1), (0, 1)])


class ViewsTest(unittest.TestCase):
    def fails(self, error, at, call, *arguments, **named):
        with self.assertRaises(error) as caught:
            call(*arguments, **named)
        self.assertEqual(caught.exception.at, at)

    def test_as_shown(self):
        self.assertEqual(answers(FIRST, 1, [(5, 0)], (3, 1)), (1, 2))
        self.assertEqual(answers(FIRST, 1, [(5, 0)], (3, 1), among=[1]), (1,))

    def test_beginnings(self):
        self.assertEqual(beginnings(FIRST, 1, [(5, 0)]), (0, 1))
        self.assertEqual(beginnings(FIRST, 0, [(5, 0)]), ())
        self.assertEqual(beginnings(machine=FIRST, now=0, heap=()), (0,))

    def test_told(self):
        self.assertEqual(told(NEWEST, 1, [(4, 1)], (2, 0)), 1)
        self.assertEqual(told(machine=FIRST, now=1, heap=[(5, 0)], slip=(3, 1), among=(0,)), 2)
        self.assertEqual(told(FIRST, 1, [(5, 0)], (3, 1), among=[1, 1, 2]), 1)

    def test_how_many_answers_there_are(self):
        self.fails(Blind, 2, told, FIRST, 1, [(5, 0)], (3, 1))
        self.fails(Refused, 2, told, FIRST, 0, [(5, 0)], (3, 1))
        self.fails(Refused, 2, told, FIRST, 1, [(5, 0)], (3, 1), among=[])
        self.fails(Refused, 2, told, FIRST, 1, [(5, 0)], (3, 1), among=(2,))
        # Command 0 brings the first three together; behind command 1 it does not.
        three = Machine(2, [(0, 0), (0, 3), (0, 4), (3, 3), (4, 4)])
        self.fails(Blind, 3, told, three, 0, [(1, 0)], (0, 1))

    def test_among_as_none(self):
        self.assertEqual(answers(FIRST, 1, [(5, 0)], (3, 1), among=None), (1, 2))
        self.assertEqual(answers(FIRST, 1, [(5, 0)], (3, 1), among=()), ())

    def test_among_that_is_neither(self):
        for among in (0, "01", {0: 1}, [3], [0, True], (False,), [None], (0, -1), iter([0])):
            for call in (answers, told):
                self.fails(Refused, 1, call, FIRST, 1, [(5, 0)], (3, 1), among=among)
                self.fails(Refused, 0, call, FIRST, 1, [(5, 0)], (5, 1), among=among)
                self.fails(InvalidSlip, 0, call, FIRST, 1, [(5, 0)], (5, 2), among=among)

    def test_which_error_goes_first(self):
        for now in plain.NO_NUMBERS + (3,):
            self.fails(Refused, 0, beginnings, FIRST, now, None)
            self.fails(Refused, 0, answers, FIRST, now, None, None, among=0)
            self.fails(Refused, 0, told, FIRST, now, None, None, among=0)
        for call in (answers, told):
            self.fails(InvalidSlip, 1, call, FIRST, 0, [(5, 0), (5, 1)], None, among=0)
            self.fails(InvalidSlip, 0, call, FIRST, 0, [(5, 0), (6, 1)], [3, 1], among=0)
            self.fails(Refused, 0, call, FIRST, 0, [(5, 0), (6, 1)], (6, 1), among=0)
        self.fails(InvalidSlip, 1, beginnings, FIRST, 0, [(5, 0), (5, 1)])

    def test_against_plain_reckoning(self):
        for machine in plain.some_machines(25, "views", commands=(1, 2), states=(1, 4)):
            for row in plain.rows(machine.commands, 3):
                heap = [(2 * place + 1, command) for place, command in enumerate(row)]
                for place in range(len(row) + 1):
                    for command in range(machine.commands):
                        self.compare(machine, row, heap, place, command)

    def compare(self, machine, row, heap, place, command):
        longer = row[:place] + (command,) + row[place:]
        for now in range(machine.states):
            begun = [s for s in range(machine.states) if plain.lead(machine.steps, s, row) == now]
            self.assertEqual(beginnings(machine, now, heap), tuple(begun))
            wanted = tuple(sorted({plain.lead(machine.steps, s, longer) for s in begun}))
            self.assertEqual(answers(machine, now, heap, (2 * place, command)), wanted)
            some = [s for s in begun if s & 1]
            wanted = tuple(sorted({plain.lead(machine.steps, s, longer) for s in some}))
            odd = [s for s in range(machine.states) if s & 1]
            self.assertEqual(answers(machine, now, heap, (2 * place, command), among=odd), wanted)

    def test_arguments_stay_as_they_are(self):
        heap, among = [(5, 0), (1, 1)], [1, 0]
        answers(FIRST, 1, heap, (3, 1), among=among)
        self.assertEqual((heap, among), ([(5, 0), (1, 1)], [1, 0]))


if __name__ == "__main__":
    unittest.main()
