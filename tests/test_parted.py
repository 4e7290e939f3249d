import itertools
import random
import unittest

from lateslips.errors import InvalidQuestion, InvalidSlip, Refused
from lateslips.machines import Machine
from lateslips.parted import filled_end, notes_needed, parting
from lateslips.weeks import week_heap
from tests import plain
from tests.case import (
    CARDS, CARDS_AND_STOCKS, Case, DOWN, FIRST, LONG, NEWEST, NO_HEAPS, ONE, SUMS, TURN_AND_END, WIDE_HEAVY,
)

NO_STATES = plain.NO_NUMBERS + (2, 10 ** 20)
NO_FILLINGS = (
    None, 0, "filling", [], [(0, ())], {0: ()}, (0, ()), ((0, [0]),), ([0, ()],), ((0, (2,)),), ((0, (True,)),),
    ((True, ()),), ((-1, ()),), ((0.0, ()),), ((None, ()),), ((0, ()), (0, ())), ((1, ()), (0, ())), ((0, None),),
    ((0,),), ((0, (), ()),), ((0, ()), None), ((0, (0,)), (3, (0, -1))), ((1, ()), (2, ()), (1, ())),
)


def machines():
    """Machines of all kinds with few effects."""
    some = (
        plain.some_of_kind(8, "parted", "tray", states=(2, 3)) + plain.some_of_kind(4, "parted", "heavy", states=(3, 3))
        + list(plain.some_machines(15, "parted", commands=(2, 2), states=(2, 3)))
        + [NEWEST, SUMS, DOWN, FIRST, ONE, CARDS, TURN_AND_END]
    )
    return [machine for machine in some if len(plain.effects(machine)) <= 8]


def all_fillings(machine, times):
    """Fillings enough to tell: at each time a row of each effect."""
    rows = list(plain.effects(machine).values())
    for some in itertools.product(rows, repeat=len(times)):
        yield tuple(zip(times, some))


def all_ends(machine, state, heap, times):
    return tuple(plain.filled_end(machine, state, heap, filling) for filling in all_fillings(machine, times))


class FilledTest(Case):
    def test_against_plain_reckoning(self):
        chance = random.Random("filled")
        for machine in plain.some_machines(40, "filled", commands=(1, 3), states=(1, 4)):
            for heap in plain.heaps(machine.commands, (0, 2, 3)):
                filling = tuple(
                    (time, tuple(chance.randrange(machine.commands) for _ in range(chance.randrange(3))))
                    for time in range(6) if chance.randrange(2))
                for state in range(machine.states):
                    wanted = plain.filled_end(machine, state, heap, filling)
                    self.assertEqual(filled_end(machine, state, list(heap[::-1]), filling), wanted)

    def test_a_row_goes_ahead_of_a_slip_with_its_time(self):
        self.assertEqual(filled_end(NEWEST, 0, [(4, 1)], ((4, (0, 0)),)), 1)
        self.assertEqual(filled_end(NEWEST, 0, [(4, 1)], ((3, (0,)),)), 1)
        self.assertEqual(filled_end(NEWEST, 0, [(4, 1)], ((5, (0,)),)), 0)
        self.assertEqual(filled_end(CARDS, 0, [(4, 1)], ((4, (0, 1)),)), 1)
        self.assertEqual(filled_end(CARDS, 0, [(4, 1)], ((1, (0,)), (2, (1,)))), 1)
        self.assertEqual(filled_end(machine=CARDS, state=0, heap=(), filling=((0, (0,)), (1, (1,)))), 2)

    def test_empty(self):
        self.assertEqual(filled_end(NEWEST, 1, (), ()), 1)
        self.assertEqual(filled_end(NEWEST, 1, [(4, 0)], ((2, ()), (3, ()))), 0)
        self.assertEqual(filled_end(ONE, 0, [(4, 0)], ((4, (0, 0)),)), 0)

    def test_which_error_goes_first(self):
        for state in NO_STATES:
            self.fails(Refused, 0, filled_end, NEWEST, state, None, None)
        for value, at in NO_HEAPS:
            self.fails(InvalidSlip, at, filled_end, NEWEST, 0, value, None)
        for value in NO_FILLINGS:
            self.fails(InvalidQuestion, 3, filled_end, NEWEST, 0, [(4, 1), (1, 0)], value)

    def test_long_rows(self):
        filling = tuple((time, (0, 1) * 5000) for time in range(3))
        heap = [(1, 0), (2, 1)]
        self.assertEqual(filled_end(CARDS, 0, heap, filling), plain.filled_end(CARDS, 0, heap, filling))


class PartingTest(Case):
    def test_against_all_fillings(self):
        for machine in machines():
            heaps = list(plain.heaps(machine.commands, (0, 2)))
            for state in range(machine.states):
                ends = {heap: all_ends(machine, state, heap, (0, 2)) for heap in heaps}
                for one, other in itertools.product(heaps, repeat=2):
                    found = parting(machine, state, list(one[::-1]), other)
                    self.assertEqual(found is None, ends[one] == ends[other])
                    self.check(machine, state, one, other, found)

    def check(self, machine, state, one, other, found):
        if found is not None:
            self.assertIs(type(found), tuple)
            first = filled_end(machine, state, one, found)
            self.assertNotEqual(first, filled_end(machine, state, other, found))
            self.assertEqual(first, plain.filled_end(machine, state, one, found))

    def test_wider_heaps(self):
        chance = random.Random("wider")
        wider = list(plain.some_machines(150, "wider", commands=(2, 4), states=(2, 6)))
        for machine in wider + plain.some_of_kind(60, "wider", "tray", states=(4, 6)):
            one, other = [
                [(time, chance.randrange(machine.commands)) for time in range(9) if chance.randrange(2)]
                for _ in range(2)
            ]
            found = parting(machine, 0, one, other)
            self.assertEqual(found is not None, plain.are_parted(machine, 0, one, other))
            self.check(machine, 0, one, other, found)

    def test_a_row_of_three_commands_is_needed(self):
        machine = Machine(2, [(0, 1), (1, 2), (2, 3), (4, 3), (4, 4)])
        self.assertEqual(parting(machine, 0, [(6, 0)], ()), ((6, (1, 1, 1)),))
        self.assertEqual(parting(machine, 0, (), [(6, 0)]), ((6, (1, 1, 1)),))

    def test_named_ones(self):
        self.assertIsNone(parting(NEWEST, 0, [(3, 1), (5, 1)], [(5, 1), (2, 0)]))
        self.assertIsNone(parting(NEWEST, 0, (), ()))
        self.assertIsNone(parting(SUMS, 0, [(3, 0)], [(9, 0)]))
        self.assertEqual(parting(NEWEST, 0, [(3, 1)], [(3, 0)]), ())
        self.assertEqual(parting(machine=NEWEST, state=0, one=[(3, 1)], other=[(5, 1)]), ((5, (0,)),))
        self.assertIsNone(parting(machine=ONE, state=0, one=[(3, 0)], other=()))

    def test_only_a_row_ahead_of_all_parts_them(self):
        machine = Machine(2, [(0, 1), (2, 1), (2, 2)])
        self.assertEqual(parting(machine, 0, [(0, 0)], ()), ((0, (1,)),))

    def test_which_error_goes_first(self):
        for state in NO_STATES:
            self.fails(Refused, 0, parting, NEWEST, state, None, None)
        for value, at in NO_HEAPS:
            self.fails(InvalidSlip, at, parting, NEWEST, 0, value, None)
            self.fails(InvalidSlip, at, parting, NEWEST, 0, [(9, 0), (8, 1), (7, 1), (5, 0)], value)

    def test_at_the_limits(self):
        chance = random.Random("parting")
        for machine in (LONG, WIDE_HEAVY, CARDS_AND_STOCKS, plain.WIDE):
            times = chance.sample(range(10 ** 6), 400)
            one, other = [[(time, chance.randrange(5)) for time in part] for part in (times[:200], times[200:])]
            found = parting(machine, 2, one, other)
            self.check(machine, 2, one, other, found)
            self.check(machine, 2, one, one[:-1], parting(machine, 2, one, one[:-1]))
            self.assertIsNone(parting(machine, 2, one, one[::-1]))

    def test_week_heaps(self):
        one, other = [week_heap(CARDS, ((), 0, 0, 1), choices) for choices in ((0, 1, 1), (0, 1, 0))]
        self.check(CARDS, 0, one, other, parting(CARDS, 0, one, other))
        self.assertIsNotNone(parting(CARDS, 0, one, other))


class NotesTest(Case):
    def test_as_shown(self):
        self.assertEqual(notes_needed(NEWEST, 0, [[(3, 1)], [(5, 1)], [(5, 1), (2, 0)]]), 2)

    def test_against_all_fillings(self):
        for machine in machines():
            heaps = list(plain.heaps(machine.commands, (0, 2)))
            for state in range(machine.states):
                wanted = len({all_ends(machine, state, heap, (0, 2)) for heap in heaps})
                self.assertEqual(notes_needed(machine, state, [list(heap[::-1]) for heap in heaps]), wanted)

    def test_as_many_as_can_be_picked(self):
        chance = random.Random("picked")
        for machine in list(plain.some_machines(40, "picked", states=(2, 5))) + plain.some_of_kind(15, "picked", "tray"):
            heaps = [
                [(time, chance.randrange(machine.commands)) for time in range(4) if chance.randrange(3)] for _ in range(7)
            ]
            parted = {
                (one, other) for one, other in itertools.product(range(7), repeat=2)
                if parting(machine, 0, heaps[one], heaps[other]) is not None
            }
            most = max(
                len(some) for some in plain.some_of(range(7))
                if all(pair in parted for pair in itertools.combinations(some, 2))
            )
            self.assertEqual(notes_needed(machine, 0, tuple(heaps)), most)

    def test_few(self):
        self.assertEqual(notes_needed(NEWEST, 0, []), 0)
        self.assertEqual(notes_needed(NEWEST, 0, ([],)), 1)
        self.assertEqual(notes_needed(machine=NEWEST, state=0, heaps=([(1, 0)], ((1, 0),))), 1)
        self.assertEqual(notes_needed(ONE, 0, [[(time, 0)] for time in range(9)]), 1)
        self.assertEqual(notes_needed(SUMS, 0, [[(time, 0) for time in range(many)] for many in range(9)]), 3)

    def test_weeks_need_two_to_the_power(self):
        heaps = [week_heap(CARDS, ((), 0, 0, 1), choices) for choices in itertools.product((0, 1), repeat=7)]
        self.assertEqual(notes_needed(CARDS, 0, heaps), 128)

    def test_which_error_goes_first(self):
        for state in NO_STATES:
            self.fails(Refused, 0, notes_needed, NEWEST, state, None)
        for value in (None, 0, "heaps", {0: ()}, iter([])):
            self.fails(InvalidQuestion, 2, notes_needed, NEWEST, 0, value)
        for value, at in NO_HEAPS:
            self.fails(InvalidSlip, at, notes_needed, NEWEST, 0, [(), [(1, 0)], value, [(7, 7)]])

    def test_at_the_limits(self):
        chance = random.Random("notes")
        for machine in (LONG, CARDS_AND_STOCKS, plain.WIDE):
            heaps = [[(time, chance.randrange(5)) for time in chance.sample(range(10 ** 6), 200)] for _ in range(10)]
            found = notes_needed(machine, 1, heaps + heaps[:4])
            self.assertEqual(found, notes_needed(machine, 1, heaps))
            self.assertEqual(found, classes_of(machine, heaps))

    def test_heaps_changed_later(self):
        heaps = [[(3, 1)], [(5, 1)]]
        self.assertEqual(notes_needed(NEWEST, 0, heaps), 2)
        self.assertEqual(heaps, [[(3, 1)], [(5, 1)]])
        heaps[0][0] = (5, 1)
        self.assertEqual(notes_needed(NEWEST, 0, heaps), 1)

    def test_machines_in_turn(self):
        heaps = [[(3, 0)], [(5, 0)]]
        for _ in range(2):
            self.assertEqual([notes_needed(machine, 0, heaps) for machine in (CARDS, SUMS, NEWEST)], [2, 1, 2])


def classes_of(machine, heaps):
    """The number of heaps that are parted from all before them."""
    return sum(
        all(parting(machine, 1, heap, other) is not None for other in heaps[:place]) for place, heap in enumerate(heaps)
    )


if __name__ == "__main__":
    unittest.main()
