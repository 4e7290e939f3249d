import unittest

from lateslips.errors import InvalidSlip, Refused
from lateslips.heaps import checked_heap, checked_slip, put_in, row_of, since, truth, until
from lateslips.machines import Machine
from tests import plain

NEWEST = Machine(2, [(0, 1), (0, 1)])
NO_SLIPS = (None, 0, "01", (0,), (0, 1, 0), [0, 1], (0, 2), (-1, 0), (0, -1), (True, 0), (0, True), (False, 0),
            (0, False), (0.0, 0), (0, None), ((0,), 0), ())


def at_of(test, error, call, *arguments, **named):
    with test.assertRaises(error) as caught:
        call(*arguments, **named)
    return caught.exception.at


class SlipTest(unittest.TestCase):
    def test_slips(self):
        slip = (10 ** 30, 1)
        self.assertIs(checked_slip(NEWEST, slip), slip)
        self.assertEqual(checked_slip(machine=NEWEST, value=(0, 0)), (0, 0))

    def test_no_slips(self):
        for value in NO_SLIPS:
            self.assertEqual(at_of(self, InvalidSlip, checked_slip, NEWEST, value), 0, value)


class HeapTest(unittest.TestCase):
    def test_any_order(self):
        self.assertEqual(checked_heap(NEWEST, [(5, 0), (3, 1), (4, 1)]), ((3, 1), (4, 1), (5, 0)))
        self.assertEqual(checked_heap(NEWEST, ()), ())
        self.assertEqual(checked_heap(machine=NEWEST, value=[]), ())

    def test_no_sequences(self):
        for value in (None, 0, "", {(0, 0): 1}, iter([]), set()):
            for call in (checked_heap, row_of):
                self.assertEqual(at_of(self, InvalidSlip, call, NEWEST, value), 0)

    def test_the_first_wrong_entry(self):
        for value in NO_SLIPS:
            self.assertEqual(at_of(self, InvalidSlip, checked_heap, NEWEST, [(5, 0), (3, 1), value, None]), 2, value)

    def test_times_that_stand_before(self):
        self.assertEqual(at_of(self, InvalidSlip, checked_heap, NEWEST, [(5, 0), (3, 1), (5, 1)]), 2)
        self.assertEqual(at_of(self, InvalidSlip, checked_heap, NEWEST, [(5, 0), (5, 0), None]), 1)
        self.assertEqual(at_of(self, InvalidSlip, checked_heap, NEWEST, [(5, 0), None, (5, 0)]), 1)

    def test_a_heap_changed_later(self):
        slips = [(5, 0), (3, 1)]
        heap = checked_heap(NEWEST, slips)
        slips.append((1, 1))
        self.assertEqual(heap, ((3, 1), (5, 0)))
        self.assertEqual(slips[0], (5, 0))

    def test_row_of(self):
        self.assertEqual(row_of(NEWEST, [(5, 0), (3, 1), (4, 1)]), (1, 1, 0))
        self.assertEqual(row_of(machine=NEWEST, heap=()), ())


class PutInTest(unittest.TestCase):
    def test_as_shown(self):
        self.assertEqual(put_in(NEWEST, ((3, 1),), (2, 0)), ((2, 0), (3, 1)))

    def test_places(self):
        heap = [(4, 1), (2, 0)]
        self.assertEqual(put_in(NEWEST, heap, (3, 1)), ((2, 0), (3, 1), (4, 1)))
        self.assertEqual(put_in(NEWEST, [(1, 0)], (2, 1)), ((1, 0), (2, 1)))
        self.assertEqual(put_in(machine=NEWEST, heap=heap, slip=(9, 1)), ((2, 0), (4, 1), (9, 1)))
        self.assertEqual(heap, [(4, 1), (2, 0)])

    def test_which_error_goes_first(self):
        self.assertEqual(at_of(self, InvalidSlip, put_in, NEWEST, [(1, 0), (1, 0)], None), 1)
        for slip in NO_SLIPS:
            self.assertEqual(at_of(self, InvalidSlip, put_in, NEWEST, [(1, 0)], slip), 0)
        self.assertEqual(at_of(self, InvalidSlip, put_in, NEWEST, [(1, 0)], (1, 2)), 0)
        self.assertEqual(at_of(self, Refused, put_in, NEWEST, [(0, 0), (1, 0)], (1, 0)), 0)
        self.assertEqual(at_of(self, Refused, put_in, NEWEST, [(9, 0), (5, 0)], (5, 1)), 0)
        self.assertEqual(at_of(self, Refused, put_in, NEWEST, [(0, 0), (1, 0)], (1, 1)), 0)


class PartsOfHeapsTest(unittest.TestCase):
    def test_since_and_until(self):
        heap = [(5, 0), (3, 1), (4, 1)]
        self.assertEqual(since(NEWEST, heap, 3), ((4, 1), (5, 0)))
        self.assertEqual(until(NEWEST, heap, 4), ((3, 1),))
        self.assertEqual(since(machine=NEWEST, heap=heap, time=0), ((3, 1), (4, 1), (5, 0)))
        self.assertEqual(until(machine=NEWEST, heap=heap, time=3), ())
        self.assertEqual(since(NEWEST, heap, 10 ** 20), ())

    def test_heaps_are_refused(self):
        self.assertEqual(at_of(self, InvalidSlip, since, NEWEST, [(1, 0), (1, 0)], 0), 1)
        self.assertEqual(at_of(self, InvalidSlip, until, NEWEST, None, 0), 0)


class TruthTest(unittest.TestCase):
    def test_as_shown(self):
        self.assertEqual(truth(NEWEST, 0, [(5, 0), (3, 1)]), 0)

    def test_against_plain_reckoning(self):
        for machine in plain.some_machines(20, "truth"):
            for row in plain.rows(machine.commands, 3):
                heap = [(2 * time, command) for time, command in enumerate(row)]
                for state in range(machine.states):
                    self.assertEqual(truth(machine, state, heap[::-1]), plain.lead(machine.steps, state, row))

    def test_which_error_goes_first(self):
        for state in plain.NO_NUMBERS + (2,):
            self.assertEqual(at_of(self, Refused, truth, NEWEST, state, None), 0)
        self.assertEqual(at_of(self, InvalidSlip, truth, machine=NEWEST, state=1, heap=[(0, 0), 1]), 1)


if __name__ == "__main__":
    unittest.main()
