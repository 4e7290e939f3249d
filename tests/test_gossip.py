import itertools
import random
import unittest

from lateslips.copies import is_standing
from lateslips.errors import Blind, InvalidQuestion, InvalidRow, InvalidSlip, Refused
from lateslips.gossip import gist, is_idle, share
from lateslips.machines import Machine
from tests import plain
from tests.case import (
    CARDS, CARDS_AND_STOCKS, Case, DOWN, FIRST, LONG, NEWEST, NO_COMMANDS, NO_HEAPS, NO_ROWS, NO_STANDINGS, ONE, SUMS,
    TURN_AND_END, WIDE_HEAVY,
)
from tests.test_copies import all_standings, plain_beginnings

TIMES = (0, 2, 3, 7)


def sighted():
    return (
        plain.some_of_kind(8, "gossip", "lasting", plain.kind_again)
        + plain.some_of_kind(8, "gossip", "counting", plain.kind_again)
        + [NEWEST, SUMS, CARDS, DOWN, TURN_AND_END, ONE]
    )


def machines():
    """Machines of all kinds."""
    return sighted() + list(plain.some_machines(12, "gossip", commands=(2, 2), states=(2, 4))) + [FIRST]


def plain_gist(machine, heap):
    return plain.held(machine, heap, plain.is_idle)


def plain_share(machine, one, other):
    """What is told, None if some time has unlike commands."""
    heap = tuple(sorted(set(one[1] + other[1])))
    if len({time for time, _ in heap}) < len(heap):
        return None
    ends = {plain.truth(machine, state, heap) for state in plain_beginnings(machine, one)}
    assert len(ends) == 1
    return (ends.pop(), plain_gist(machine, heap))


class IdleTest(Case):
    def test_all_short_rows(self):
        for machine in machines():
            for row in plain.rows(machine.commands, 3):
                for command in range(machine.commands):
                    wanted = plain.is_idle(machine, command, row)
                    self.assertIs(is_idle(machine, command, list(row)), wanted)
                    self.assertIs(is_idle(machine=machine, command=command, row=row), wanted)

    def test_named_ones(self):
        self.assertIs(is_idle(NEWEST, 0, (1,)), True)
        self.assertIs(is_idle(NEWEST, 0, ()), False)
        self.assertIs(is_idle(SUMS, 0, (0, 0)), False)
        self.assertIs(is_idle(DOWN, 0, (0, 0)), True)
        self.assertIs(is_idle(DOWN, 0, (0, 1)), False)
        self.assertIs(is_idle(ONE, 0, ()), True)

    def test_which_error_goes_first(self):
        for command in NO_COMMANDS:
            for row in (None, (), (0, 5)):
                self.fails(Refused, 0, is_idle, NEWEST, command, row)
        for row, at in NO_ROWS:
            self.fails(InvalidRow, at, is_idle, NEWEST, 1, row)

    def test_a_long_row(self):
        self.assertIs(is_idle(CARDS_AND_STOCKS, 2, (2, 3) * 5000), True)
        self.assertIs(is_idle(CARDS_AND_STOCKS, 0, (2, 3) * 5000), False)


class GistTest(Case):
    def test_all_small_heaps(self):
        for machine in machines():
            for heap in plain.heaps(machine.commands, TIMES):
                wanted = plain_gist(machine, heap)
                self.assertEqual(gist(machine, heap), wanted)
                self.assertEqual(gist(machine=machine, heap=list(heap[::-1])), wanted)

    def test_kinds(self):
        self.assertEqual(gist(NEWEST, [(5, 0), (7, 1), (1, 0)]), ((7, 1),))
        self.assertEqual(gist(SUMS, [(5, 0), (1, 0)]), ((1, 0), (5, 0)))
        self.assertEqual(gist(DOWN, [(5, 0), (6, 0), (7, 0), (8, 1)]), ((6, 0), (7, 0)))
        self.assertEqual((gist(ONE, [(5, 0)]), gist(FIRST, ())), ((), ()))

    def test_heaps_that_are_none(self):
        for value, at in NO_HEAPS:
            for machine in (NEWEST, FIRST):
                self.fails(InvalidSlip, at, gist, machine, value)

    def test_lasting_machines_keep_few(self):
        for machine in plain.some_of_kind(20, "few gossip", "lasting", plain.kind_again):
            for row in plain.rows(machine.commands, 5):
                self.assertLessEqual(len(gist(machine, list(enumerate(row)))), plain.most_kept(machine))

    def test_any_number_in_counting_machines(self):
        self.assertEqual(len(gist(SUMS, [(time, 0) for time in range(200)])), 200)

    def test_a_heap_changed_later(self):
        heap = [(5, 0), (1, 0)]
        found = gist(SUMS, heap)
        self.assertEqual(heap, [(5, 0), (1, 0)])
        heap.clear()
        self.assertEqual(found, ((1, 0), (5, 0)))


class ShareTest(Case):
    def test_as_shown(self):
        self.assertEqual(share(NEWEST, (1, ((4, 1),)), (0, ((2, 0),))), (1, ((4, 1),)))

    def test_all_small_standings(self):
        for machine in sighted():
            standings = list(all_standings(machine, (1, 4)))
            for one, other in itertools.product(standings, repeat=2):
                wanted = plain_share(machine, one, other)
                if wanted is None:
                    self.fails(Refused, 0, share, machine, one, other)
                else:
                    self.assertEqual(share(machine=machine, one=one, other=other), wanted)
                    self.assertIs(is_standing(machine, wanted), True)

    def test_truth_and_gist_of_both(self):
        for machine in sighted():
            heaps = list(plain.heaps(machine.commands, (1, 4, 6)))[::2]
            for one, other in itertools.product(heaps, repeat=2):
                both = tuple(sorted(set(one + other)))
                if len({time for time, _ in both}) == len(both):
                    for state in range(machine.states):
                        told = [(plain.truth(machine, state, heap), plain_gist(machine, heap)) for heap in (one, other)]
                        wanted = (plain.truth(machine, state, both), plain_gist(machine, both))
                        self.assertEqual(share(machine, *told), wanted)

    def test_however_often_they_tell_each_other(self):
        chance = random.Random("gossip")
        for machine in sighted():
            slips = [(time, chance.randrange(machine.commands)) for time in range(6)]
            heaps = [set(), set(), set()]
            standings = [(0, ())] * 3
            for _ in range(20):
                one, other = chance.sample(range(3), 2)
                slip = chance.choice(slips)
                fresh = (plain.truth(machine, 0, [slip]), plain_gist(machine, [slip]))
                standings[one] = share(machine, share(machine, standings[one], fresh), standings[other])
                heaps[one] = heaps[one] | heaps[other] | {slip}
                wanted = (plain.truth(machine, 0, heaps[one]), plain_gist(machine, heaps[one]))
                self.assertEqual(standings[one], wanted)

    def test_with_itself(self):
        self.assertEqual(share(SUMS, (2, ((4, 0), (5, 0))), (2, ((4, 0), (5, 0)))), (2, ((4, 0), (5, 0))))
        self.assertEqual(share(NEWEST, (0, ((4, 1), (5, 0))), (0, ((4, 1), (5, 0)))), (0, ((5, 0),)))
        self.assertEqual(share(NEWEST, (1, ()), (0, ())), (1, ()))
        self.assertEqual(share(ONE, (0, ()), (0, ())), (0, ()))

    def test_the_beginnings_are_those_of_the_first(self):
        self.assertEqual(share(SUMS, (1, ((4, 0),)), (2, ((5, 0),))), (2, ((4, 0), (5, 0))))
        self.assertEqual(share(SUMS, (2, ((5, 0),)), (1, ((4, 0),))), (0, ((4, 0), (5, 0))))

    def test_which_error_goes_first(self):
        for value in NO_STANDINGS + ((0, ()),):
            self.fails(Blind, 0, share, FIRST, value, None)
        for value in NO_STANDINGS:
            self.fails(InvalidQuestion, 1, share, NEWEST, value, None)
            self.fails(InvalidQuestion, 2, share, NEWEST, (1, ((4, 1),)), value)
        self.fails(Refused, 0, share, NEWEST, (1, ((4, 1),)), (0, ((4, 0),)))
        self.fails(Refused, 0, share, machine=NEWEST, one=(1, ((2, 0), (4, 1))), other=(0, ((2, 1), (7, 0))))

    def test_at_the_limits(self):
        chance = random.Random("sharing")
        for machine in (LONG, WIDE_HEAVY, CARDS_AND_STOCKS, plain.WIDE):
            slips = [(time, chance.randrange(5)) for time in chance.sample(range(10 ** 9), 200)]
            standings = []
            for part in (slips[:120], slips[80:]):
                standings.append((plain.truth(machine, 3, part), plain_gist(machine, part)))
            wanted = (plain.truth(machine, 3, slips), plain_gist(machine, slips))
            self.assertEqual(share(machine, *standings), wanted)

    def test_machines_in_turn(self):
        for _ in range(2):
            told = [share(machine, (0, ()), (1, ((4, 0),))) for machine in (SUMS, CARDS, Machine(1, [(0,), (1,)]))]
            self.assertEqual(told, [(1, ((4, 0),)), (1, ((4, 0),)), (0, ())])


if __name__ == "__main__":
    unittest.main()
