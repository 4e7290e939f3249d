import itertools
import random
import unittest

from lateslips.errors import InvalidQuestion, InvalidSlip, Refused
from lateslips.heaps import checked_heap
from lateslips.lasting import again_verdict, is_again_verdict
from lateslips.lots import lot_heap, parting_again
from lateslips.machines import Machine
from lateslips.stuck import block_heap
from tests import plain
from tests.case import (
    CARDS, CARDS_AND_STOCKS, Case, DOWN, FIRST, LONG, NEWEST, NO_HEAPS, ONE, SUMS, TURN_AND_END, WIDE_HEAVY,
)

COUNTER = ((), 0, 1)
# State 3 does what state 0 does, so counters have rows.
COPIED = Machine(1, [(1,), (2,), (0,), (1,)])
NO_COUNTERS = (
    None, 0, "counter", list(COUNTER), ([], 0, 1), ((), False, 1), ((), 0, True), ((1,), 0, 1), ((), 1, 1), ((), 0, 3),
    ((), 0), ((), 0, 0, 1), (), (None, 0, 1), ((True,), 0, 1),
)
NO_TIMES = (
    None, 0, "01", {0: 0}, {0}, iter([0]), (5,), [0, 9], (0, 0), [1, 2, 1], (-1,), (True,), [0, False], (0.0,), (None,),
    ("0",), ((0,),),
)
NO_STATES = plain.NO_NUMBERS + (2, 10 ** 20)


def counters_of(machine):
    places = itertools.product(plain.rows(machine.commands, 2), range(machine.commands), range(machine.states))
    return [
        value for value in places
        if is_again_verdict(machine, ("counting", (plain.kernels(machine), value)))
    ]


def counting():
    return plain.some_of_kind(12, "lots", "counting", plain.kind_again) + [SUMS, COPIED, CARDS, TURN_AND_END]


def machines():
    """Machines of all kinds with few effects."""
    some = (
        plain.some_of_kind(6, "again", "lasting", plain.kind_again, states=(2, 3))
        + plain.some_of_kind(6, "again", "counting", plain.kind_again, states=(2, 3))
        + list(plain.some_machines(12, "again", commands=(2, 2), states=(2, 3)))
        + [NEWEST, SUMS, DOWN, FIRST, ONE, CARDS]
    )
    return [machine for machine in some if len(plain.effects(machine)) <= 8]


class LotTest(Case):
    def test_against_plain_reckoning(self):
        for machine in counting():
            for counter in counters_of(machine)[:6]:
                for times in plain.some_of(range(4)):
                    for behind in (4, 7):
                        wanted = tuple((time, counter[1]) for time in times)
                        wanted += tuple((behind + at, command) for at, command in enumerate(counter[0]))
                        self.assertEqual(lot_heap(machine, counter, list(times[::-1]), behind), wanted)
                        found = lot_heap(machine=machine, counter=counter, times=times, behind=behind)
                        self.assertEqual(checked_heap(machine, found), wanted)

    def test_named_ones(self):
        self.assertEqual(lot_heap(SUMS, COUNTER, [4, 0, 2], 5), ((0, 0), (2, 0), (4, 0)))
        self.assertEqual(lot_heap(SUMS, ((0, 0), 0, 1), [1], 5), ((1, 0), (5, 0), (6, 0)))
        self.assertEqual(lot_heap(SUMS, ((0,), 0, 1), (), 0), ((0, 0),))
        self.assertEqual(lot_heap(SUMS, COUNTER, (), 0), ())

    def test_which_error_goes_first(self):
        for counter in NO_COUNTERS:
            self.fails(InvalidQuestion, 1, lot_heap, SUMS, counter, None, 5)
        for machine in (NEWEST, DOWN, ONE):
            self.fails(InvalidQuestion, 1, lot_heap, machine, COUNTER, (), 5)
        for times in NO_TIMES:
            self.fails(InvalidQuestion, 2, lot_heap, SUMS, COUNTER, times, 5)
        self.fails(InvalidQuestion, 2, lot_heap, SUMS, COUNTER, [0], 0)
        self.fails(InvalidQuestion, 2, lot_heap, machine=SUMS, counter=COUNTER, times=(0, 4, 3, 4), behind=5)

    def test_a_counter_of_a_blind_machine(self):
        # Nothing refuses blind machines here.
        machine = Machine(2, [(1, 0), (0, 1), (2, 0)])
        self.assertEqual(plain.kind_again(machine), "blind")
        self.assertEqual(lot_heap(machine, COUNTER, [3, 1], 4), ((1, 0), (3, 0)))

    def test_lots_of_one_size_end_alike_until_a_slip_comes_again(self):
        for machine in counting():
            for counter in counters_of(machine)[:6]:
                for size in range(4):
                    self.lots_of(machine, counter, list(itertools.combinations(range(4), size)))

    def lots_of(self, machine, counter, lots):
        heaps = {times: lot_heap(machine, counter, times, 4) for times in lots}
        self.assertEqual(len({plain.truth(machine, counter[2], heap) for heap in heaps.values()}), 1)
        for one, other in itertools.permutations(lots, 2):
            slip = (min(set(one) - set(other)), counter[1])
            first = plain.truth(machine, counter[2], set(heaps[one]) | {slip})
            second = plain.truth(machine, counter[2], set(heaps[other]) | {slip})
            self.assertNotEqual(first, second)
            self.assertIsNotNone(parting_again(machine, counter[2], heaps[one], heaps[other]))

    def test_times_changed_later(self):
        times = [3, 1]
        found = lot_heap(SUMS, COUNTER, times, 5)
        self.assertEqual(times, [3, 1])
        times.append(4)
        self.assertEqual(found, ((1, 0), (3, 0)))

    def test_at_the_limits(self):
        counter = ((0,) * 10000, 0, 1)
        found = lot_heap(SUMS, counter, list(range(199, -1, -1)), 10 ** 9)
        self.assertEqual((len(found), found[0], found[200], found[-1]), (10200, (0, 0), (10 ** 9, 0), (10 ** 9 + 9999, 0)))
        for machine in (CARDS_AND_STOCKS, WIDE_HEAVY):
            counter = again_verdict(machine)[1][1]
            found = lot_heap(machine, counter, [7, 3, 5], 10)
            self.assertEqual(found[:3], tuple((time, counter[1]) for time in (3, 5, 7)))


def may_come_again(one, other):
    """The slips of the two heaps that may come again and that only one of them has."""
    times = [[time for time, _ in heap] for heap in (one, other)]
    return sorted(
        [slip for slip in one if slip[0] not in times[1]] + [slip for slip in other if slip[0] not in times[0]]
    )


def all_ends(machine, state, heap, times):
    rows = list(plain.effects(machine).values())
    return [
        plain.filled_end(machine, state, heap, tuple(zip(times, some)))
        for some in itertools.product(rows, repeat=len(times))
    ]


def parted_again(machine, state, one, other):
    """Whether some filling and some slips part the two, by trying all of them."""
    times = sorted({time for time, _ in one + other})
    for again in plain.some_of(may_come_again(one, other)):
        first, second = [tuple(sorted(set(heap) | set(again))) for heap in (one, other)]
        if all_ends(machine, state, first, times) != all_ends(machine, state, second, times):
            return True
    return False


class PartingAgainTest(Case):
    def check(self, machine, state, one, other, found):
        """Whether what was told parts the two heaps."""
        self.assertIs(type(found), tuple)
        filling, again = found
        self.assertIs(type(filling), tuple)
        self.assertEqual(again, tuple(sorted(set(again))))
        for slip in again:
            self.assertIn(slip, one + other)
            for heap in (one, other):
                self.assertEqual([entry for entry in heap if entry[0] == slip[0] and entry != slip], [])
        ends = [
            plain.filled_end(machine, state, tuple(sorted(set(heap) | set(again))), filling) for heap in (one, other)
        ]
        self.assertNotEqual(*ends)

    def test_as_shown(self):
        self.assertIn(parting_again(SUMS, 0, [(1, 0)], [(2, 0)])[1], (((1, 0),), ((2, 0),)))

    def test_against_all_fillings(self):
        for machine in machines():
            heaps = list(plain.heaps(machine.commands, (0, 2)))
            for state in range(machine.states):
                for one, other in itertools.combinations_with_replacement(heaps, 2):
                    wanted = parted_again(machine, state, one, other)
                    for pair in ((one, other), (other, one)):
                        found = parting_again(machine, state, list(pair[0][::-1]), list(pair[1]))
                        self.assertEqual(found is not None, wanted)
                        if found is not None:
                            self.check(machine, state, *pair, found)

    def test_wider_heaps(self):
        chance = random.Random("wider again")
        wider = list(plain.some_machines(100, "wider again", commands=(2, 4), states=(2, 6)))
        wider += plain.some_of_kind(40, "wider again", "lasting", plain.kind_again, states=(3, 6))
        nones = 0
        for machine in wider:
            one, other = [
                tuple((time, chance.randrange(machine.commands)) for time in range(7) if chance.randrange(2))
                for _ in range(2)
            ]
            found = parting_again(machine, 0, one, other)
            self.assertEqual(found is not None, plain.are_parted(machine, 0, one, other, again=True))
            if found is None:
                nones += 1
            else:
                self.check(machine, 0, one, other, found)
        self.assertGreater(nones, 5)

    def test_a_row_of_three_commands_is_needed(self):
        machine = Machine(2, [(0, 1), (1, 2), (2, 3), (4, 3), (4, 4)])
        self.assertEqual(parting_again(machine, 0, [(6, 0)], ()), (((6, (1, 1, 1)),), ()))

    def test_equal_heaps(self):
        for machine in machines():
            for heap in plain.heaps(machine.commands, (0, 2, 5)):
                self.assertIsNone(parting_again(machine, 0, heap, list(heap[::-1])))

    def test_one_slip_unlike(self):
        # With another command at the time neither slip may come again.
        machine = Machine(2, [(1, 2), (1, 2), (2, 2)])
        self.assertEqual(parting_again(machine, 1, [(4, 0)], [(4, 1)]), ((), ()))
        self.assertIsNone(parting_again(machine, 2, [(4, 0)], [(4, 1)]))
        self.assertEqual(parting_again(SUMS, 0, [(4, 0)], []), ((), ()))
        self.assertIsNone(parting_again(ONE, 0, [(4, 0)], []))
        self.assertIsNone(parting_again(DOWN, 0, [(4, 1)], [(5, 1)]))
        self.check(NEWEST, 0, ((4, 1),), ((5, 1),), parting_again(NEWEST, 0, [(4, 1)], [(5, 1)]))

    def test_a_slip_that_both_have_is_not_needed(self):
        one, other = ((1, 0), (3, 0)), ((2, 0), (3, 0))
        filling, again = parting_again(machine=SUMS, state=0, one=one, other=other)
        self.assertIn(again, (((1, 0),), ((2, 0),)))
        self.check(SUMS, 0, one, other, (filling, again))

    def test_which_error_goes_first(self):
        for state in NO_STATES:
            self.fails(Refused, 0, parting_again, NEWEST, state, None, None)
        for value, at in NO_HEAPS:
            self.fails(InvalidSlip, at, parting_again, NEWEST, 0, value, None)
            self.fails(InvalidSlip, at, parting_again, NEWEST, 0, [(9, 0), (8, 1), (7, 1), (5, 0)], value)

    def test_blocks_of_firm_rows(self):
        joined = [
            machine for machine in machines() if len(set(plain_reach(machine))) == 1 and len(plain_reach(machine)[0]) > 1
        ]
        self.assertGreater(len(joined), 3)
        for machine in joined:
            for row in plain.rows(machine.commands, 2):
                if plain.row_held(machine, row, plain.is_harmless) == row:
                    heaps = [
                        block_heap(machine, row, places, 3) for places in itertools.product(range(3), repeat=len(row))
                    ]
                    for state in range(machine.states):
                        for one, other in itertools.combinations(heaps, 2):
                            self.check(machine, state, one, other, parting_again(machine, state, one, other))

    def test_at_the_limits(self):
        chance = random.Random("parting again")
        for machine in (LONG, WIDE_HEAVY, CARDS_AND_STOCKS, plain.WIDE):
            times = chance.sample(range(10 ** 6), 400)
            one, other = [
                tuple((time, chance.randrange(5)) for time in part) for part in (times[:200], times[200:])
            ]
            found = parting_again(machine, 2, one, other)
            if found is not None:
                self.check(machine, 2, one, other, found)
            self.assertIsNone(parting_again(machine, 2, one, one[::-1]))
        found = parting_again(SUMS, 0, [(time, 0) for time in range(200)], [(time, 0) for time in range(200, 400)])
        self.assertIsNotNone(found)

    def test_machines_in_turn(self):
        for _ in range(2):
            told = [parting_again(machine, 0, [(1, 0)], [(2, 0)]) for machine in (SUMS, ONE, CARDS)]
            self.assertEqual([found is None for found in told], [False, True, False])


def plain_reach(machine):
    """For each state the states that rows lead it to."""
    return [tuple(sorted({done[state] for done in plain.effects(machine)})) for state in range(machine.states)]


if __name__ == "__main__":
    unittest.main()
