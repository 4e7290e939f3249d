import itertools
import random
import unittest

from lateslips.changes import late_commands
from lateslips.corrections import exchange, right_exchanges, right_strikes, right_swaps, strike, swap
from lateslips.errors import InvalidSlip, Refused
from lateslips.heaps import truth
from lateslips.kernels import kernel
from lateslips.machines import Machine
from lateslips.mending import mended_states
from tests import plain
from tests.case import (
    CARDS, CARDS_AND_STOCKS, Case, DOWN, FIRST, LONG, NEWEST, NO_HEAPS, NO_SLIPS, ONE, SUMS, TURN_AND_END, WIDE_HEAVY,
)

TOP = Machine(2, [(0, 1), (1, 1)])
TIMES = (0, 2, 3, 7)
HEAP = ((1, 0), (4, 1), (6, 0))
# Values that are no times of HEAP: True is not 1, nor is 1.0.
NO_TIMES = (True, False, None, -1, 0, 2, 7, 10 ** 20, 1.0, "1", (1,), [1], (1, 0), {1: 0}, {1})


def machines():
    return list(plain.some_machines(60, "corrections", commands=(1, 3), states=(1, 4))) + [
        TOP, FIRST, NEWEST, SUMS, CARDS, DOWN, TURN_AND_END, ONE,
    ]


class HeapsTest(Case):
    def test_exchange(self):
        for heap in plain.heaps(2, TIMES):
            for slip in itertools.product(range(9), (0, 1)):
                wanted = tuple(slip if entry[0] == slip[0] else entry for entry in heap)
                if slip[0] in dict(heap):
                    self.assertEqual(exchange(NEWEST, heap, slip), wanted)
                    self.assertEqual(exchange(machine=FIRST, heap=list(heap[::-1]), slip=slip), wanted)
                else:
                    self.fails(Refused, 0, exchange, NEWEST, heap, slip)

    def test_swap(self):
        for heap in plain.heaps(2, TIMES):
            times = [time for time, _ in heap]
            for time in range(9):
                if time not in times[:-1]:
                    self.fails(Refused, 0, swap, NEWEST, heap, time)
                    continue
                row = [command for _, command in heap]
                at = times.index(time)
                row[at], row[at + 1] = row[at + 1], row[at]
                self.assertEqual(swap(NEWEST, heap, time), tuple(zip(times, row)))
                self.assertEqual(swap(machine=FIRST, heap=list(heap[::-1]), time=time), tuple(zip(times, row)))

    def test_strike(self):
        for heap in plain.heaps(2, TIMES):
            for time in range(9):
                wanted = tuple(entry for entry in heap if entry[0] != time)
                if wanted == heap:
                    self.fails(Refused, 0, strike, NEWEST, heap, time)
                else:
                    self.assertEqual(strike(NEWEST, heap, time), wanted)
                    self.assertEqual(strike(machine=FIRST, heap=list(heap[::-1]), time=time), wanted)

    def test_named_ones(self):
        self.assertEqual(exchange(NEWEST, HEAP, (4, 0)), ((1, 0), (4, 0), (6, 0)))
        self.assertEqual(exchange(NEWEST, HEAP, (4, 1)), HEAP)
        self.assertEqual(swap(NEWEST, HEAP, 1), ((1, 1), (4, 0), (6, 0)))
        self.assertEqual(swap(NEWEST, HEAP, 4), ((1, 0), (4, 0), (6, 1)))
        self.assertEqual(strike(NEWEST, HEAP, 1), HEAP[1:])
        self.assertEqual(strike(NEWEST, HEAP, 6), HEAP[:2])
        self.assertEqual(strike(NEWEST, [(10 ** 20, 1)], 10 ** 20), ())

    def test_times_that_are_none(self):
        for time in NO_TIMES:
            self.fails(Refused, 0, swap, NEWEST, HEAP, time)
            self.fails(Refused, 0, strike, NEWEST, HEAP, time)
            self.fails(Refused, 0, swap, NEWEST, ((0, 0), (1, 1)), time if time != 0 else None)
            self.fails(Refused, 0, strike, NEWEST, (), time)
        self.fails(Refused, 0, swap, NEWEST, HEAP, 6)
        self.fails(Refused, 0, swap, NEWEST, [(5, 1)], 5)
        self.fails(Refused, 0, swap, NEWEST, ((0, 0), (2, 1)), False)
        self.fails(Refused, 0, strike, NEWEST, ((0, 0), (2, 1)), False)
        self.fails(Refused, 0, exchange, NEWEST, HEAP, (5, 1))
        self.fails(Refused, 0, exchange, NEWEST, (), (5, 1))

    def test_which_error_goes_first(self):
        for value, at in NO_HEAPS:
            self.fails(InvalidSlip, at, exchange, NEWEST, value, None)
            self.fails(InvalidSlip, at, swap, NEWEST, value, None)
            self.fails(InvalidSlip, at, strike, NEWEST, value, None)
        for slip in NO_SLIPS:
            self.fails(InvalidSlip, 0, exchange, NEWEST, HEAP, slip)
            self.fails(InvalidSlip, 0, exchange, NEWEST, (), slip)

    def test_heaps_stay_as_they_are(self):
        heap = [(6, 0), (1, 0), (4, 1)]
        found = [exchange(NEWEST, heap, (4, 0)), swap(NEWEST, heap, 1), strike(NEWEST, heap, 1)]
        self.assertEqual(heap, [(6, 0), (1, 0), (4, 1)])
        heap.clear()
        self.assertEqual(found, [((1, 0), (4, 0), (6, 0)), ((1, 1), (4, 0), (6, 0)), ((4, 1), (6, 0))])

    def test_at_the_limits(self):
        chance = random.Random("corrections")
        heap = sorted((time, chance.randrange(5)) for time in chance.sample(range(10 ** 9), 200))
        times = [time for time, _ in heap]
        for at in (0, 100, 198):
            wanted = [command for _, command in heap]
            wanted[at], wanted[at + 1] = wanted[at + 1], wanted[at]
            self.assertEqual(swap(LONG, heap[::-1], times[at]), tuple(zip(times, wanted)))
            self.assertEqual(strike(LONG, heap[::-1], times[at]), tuple(heap[:at] + heap[at + 1:]))
            self.assertEqual(exchange(LONG, heap, (times[at], 4))[at], (times[at], 4))
        self.fails(Refused, 0, swap, LONG, heap, times[199])


class RightTest(Case):
    def test_as_shown(self):
        self.assertEqual((right_exchanges(TOP), right_strikes(TOP)), (((0, 1),), (0,)))

    def test_against_plain_reckoning(self):
        for machine in machines():
            pairs = plain.unlike_commands(machine)
            wanted = tuple((a, b) for a, b in pairs if plain.may_become(machine, (a,), (b,)))
            self.assertEqual(right_exchanges(machine), wanted)
            wanted = tuple((a, b) for a, b in pairs if plain.may_become(machine, (a, b), (b, a)))
            self.assertEqual(right_swaps(machine=machine), wanted)
            wanted = tuple(a for a in range(machine.commands) if plain.may_become(machine, (a,), ()))
            self.assertEqual(right_strikes(machine=machine), wanted)

    def test_named_ones(self):
        self.assertEqual((right_exchanges(NEWEST), right_swaps(NEWEST), right_strikes(NEWEST)), (((0, 1), (1, 0)),) * 2 + ((),))
        self.assertEqual((right_exchanges(ONE), right_swaps(ONE), right_strikes(ONE)), ((), (), (0,)))
        self.assertEqual(right_strikes(SUMS), (0,))
        self.assertEqual((right_swaps(FIRST), right_swaps(TOP)), ((), ((0, 1), (1, 0))))

    def test_what_may_be_struck(self):
        for machine in machines():
            kernels = [kernel(machine, (command,)) for command in range(machine.commands)]
            one_to_one = [command for command, told in enumerate(kernels) if told == tuple(range(machine.states))]
            late = late_commands(machine)
            self.assertEqual(right_strikes(machine), tuple(a for a in one_to_one if a in late))
            every = tuple(range(machine.commands))
            self.assertEqual(right_strikes(machine) == every, len(one_to_one) == machine.commands)

    def test_right_corrections_tell_what_should_stand(self):
        chance = random.Random("right corrections")
        for machine in machines():
            for _ in range(5):
                heap = [(time, chance.randrange(machine.commands)) for time in range(5)]
                for begun in range(machine.states):
                    for changed in self.corrected(machine, heap):
                        told = mended_states(
                            machine, truth(machine, begun, heap),
                            [command for _, command in heap], [command for _, command in changed],
                        )
                        self.assertEqual(told, (truth(machine, begun, changed),))

    def corrected(self, machine, heap):
        """The heap with one right correction after another."""
        for time, command in heap:
            for a, b in right_exchanges(machine):
                if a == dict(heap)[time]:
                    heap = exchange(machine, heap, (time, b))
                    yield heap
        for time in range(4):
            if (dict(heap)[time], dict(heap)[time + 1]) in right_swaps(machine):
                heap = swap(machine, heap, time)
                yield heap
        for time, command in heap:
            if command in right_strikes(machine):
                heap = strike(machine, heap, time)
                yield heap

    def test_at_the_limits(self):
        wide = list(plain.some_machines(4, "wide", (5, 5), (10, 10)))
        for machine in [LONG, WIDE_HEAVY, CARDS_AND_STOCKS, plain.WIDE] + wide:
            for a, b in right_exchanges(machine):
                self.assertTrue(all(
                    plain.within(plain.kernel(machine, (a,) + row), plain.kernel(machine, (b,) + row))
                    for row in plain.rows(5, 2)
                ))
            self.assertEqual(len(right_swaps(machine)) == 20, machine not in wide)
            self.assertEqual(right_strikes(machine), tuple(
                command for command in late_commands(machine)
                if plain.kernel(machine, (command,)) == tuple(range(10))
            ))

    def test_machines_in_turn(self):
        for _ in range(2):
            self.assertEqual([right_strikes(machine) for machine in (SUMS, NEWEST, TOP)], [(0,), (), (0,)])


if __name__ == "__main__":
    unittest.main()
