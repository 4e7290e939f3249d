import itertools
import random
import unittest

from lateslips.errors import InvalidSlip, Refused
from lateslips.machines import Machine
from lateslips.trays import holds_tray, thrown, thrown_by, tray, tray_of_both
from tests import plain
from tests.case import CARDS, Case, DOWN, FIRST, LONG, NEWEST, NO_HEAPS, NO_SLIPS, ONE, SUMS, TURN_AND_END, WIDE_HEAVY

TIMES = (0, 2, 3, 7)


def machines():
    """Machines of all kinds."""
    return (
        plain.some_of_kind(10, "trays", "tray") + plain.some_of_kind(5, "trays", "heavy")
        + list(plain.some_machines(10, "trays", commands=(2, 2), states=(2, 4)))
        + [NEWEST, SUMS, CARDS, DOWN, FIRST, ONE, TURN_AND_END]
    )


def sighted():
    return [machine for machine in machines() if not plain.is_blind(machine)]


class TrayTest(Case):
    def test_as_shown(self):
        self.assertEqual(tray(NEWEST, [(1, 0), (4, 1), (2, 0)]), ((4, 1),))
        self.assertEqual(tray(SUMS, [(1, 0), (2, 0)]), ())

    def test_all_small_heaps(self):
        for machine in machines():
            for heap in plain.heaps(machine.commands, TIMES):
                wanted = plain.tray(machine, heap)
                self.assertEqual(tray(machine, heap), wanted)
                self.assertEqual(tray(machine=machine, heap=list(heap[::-1])), wanted)
                rest = tuple(slip for slip in heap if slip not in wanted)
                self.assertEqual(thrown(machine, heap), rest)
                self.assertEqual(thrown(machine=machine, heap=list(heap[::-1])), rest)

    def test_kinds(self):
        self.assertEqual(tray(CARDS, [(2, 1), (1, 0), (0, 1)]), ((0, 1), (1, 0), (2, 1)))
        self.assertEqual(tray(FIRST, [(2, 1), (1, 0)]), ((1, 0), (2, 1)))
        self.assertEqual((tray(ONE, [(5, 0), (1, 0)]), thrown(ONE, [(5, 0), (1, 0)])), ((), ((1, 0), (5, 0))))
        self.assertEqual((tray(NEWEST, ()), thrown(NEWEST, [])), ((), ()))

    def test_heaps_that_are_none(self):
        for value, at in NO_HEAPS:
            for machine in (NEWEST, FIRST):
                for call in (tray, thrown):
                    self.fails(InvalidSlip, at, call, machine, value)
                self.fails(InvalidSlip, at, holds_tray, machine, value, None)
                self.fails(InvalidSlip, at, holds_tray, machine, ((1, 0),), value)
                self.fails(InvalidSlip, at, thrown_by, machine, value, None)
                self.fails(InvalidSlip, at, tray_of_both, machine, value, None)
                self.fails(InvalidSlip, at, tray_of_both, machine, [(0, 0), (1, 0), (2, 0), (5, 0)], value)

    def test_a_heap_changed_later(self):
        heap = [(4, 1), (1, 0)]
        found, rest = tray(NEWEST, heap), thrown(NEWEST, heap)
        self.assertEqual(heap, [(4, 1), (1, 0)])
        heap.append((9, 0))
        self.assertEqual((found, rest, tray(NEWEST, heap)), (((4, 1),), ((1, 0),), ((9, 0),)))

    def test_kept_ones_are_enough(self):
        for machine in sighted():
            for heap in plain.heaps(machine.commands, TIMES[:3]):
                least = plain.tray(machine, heap)
                for size in range(len(heap) + 1):
                    for kept in itertools.combinations(heap, size):
                        if set(least) <= set(kept):
                            self.heap_leads_as_kept(machine, heap, kept)

    def heap_leads_as_kept(self, machine, heap, kept):
        rest = [slip for slip in heap if slip not in kept]
        others = [()] + [((time, command),) for time in (1, 5, 9) for command in range(machine.commands)]
        for state in range(machine.states):
            begun = plain.truth(machine, state, rest)
            for more in others:
                wanted = plain.truth(machine, state, heap + more)
                self.assertEqual(plain.truth(machine, begun, tuple(kept) + more), wanted)

    def test_no_tray_of_a_tray_machine_is_longer(self):
        for machine in plain.some_of_kind(25, "short trays", "tray"):
            for row in plain.rows(machine.commands, 5):
                self.assertLessEqual(len(tray(machine, list(enumerate(row)))), plain.most_kept(machine))

    def test_at_the_limits(self):
        chance = random.Random("trays")
        for machine in (LONG, WIDE_HEAVY, plain.WIDE):
            heap = [(7 * time, chance.randrange(5)) for time in range(200)]
            chance.shuffle(heap)
            self.assertEqual(tray(machine, heap), plain.tray(machine, heap))
            self.assertIs(holds_tray(machine, heap, tray(machine, heap)), True)
        full = [(time, 4) for time in range(191)] + list(enumerate((1, 3, 2, 2, 2, 2, 2, 2, 2), start=191))
        self.assertEqual(tray(LONG, full), plain.tray(LONG, full))
        cards = [(time, chance.randrange(2)) for time in range(200)]
        self.assertEqual(tray(CARDS, cards), tuple(cards))


class HoldsTest(Case):
    def test_all_small_heaps(self):
        for machine in machines():
            for heap in plain.heaps(machine.commands, TIMES[:3]):
                least = set(plain.tray(machine, heap))
                for size in range(len(heap) + 1):
                    for kept in itertools.combinations(heap, size):
                        self.assertIs(holds_tray(machine, list(heap), list(kept[::-1])), least <= set(kept))

    def test_slips_that_do_not_belong_to_the_heap(self):
        self.assertIs(holds_tray(NEWEST, [(1, 0), (4, 1)], [(4, 1)]), True)
        for kept in ([(4, 0)], [(4, 1), (2, 0)], [(4, 1), (1, 1)], [(5, 1)], [(4, 1), (5, 1)]):
            self.assertIs(holds_tray(NEWEST, [(1, 0), (4, 1)], kept), False)
        self.assertIs(holds_tray(machine=SUMS, heap=(), kept=()), True)
        self.assertIs(holds_tray(SUMS, (), [(1, 0)]), False)


class PartsTest(Case):
    def test_thrown_by_each_slip(self):
        for machine in machines():
            for heap in plain.heaps(machine.commands, TIMES[:3]):
                for time in (1, 3, 9):
                    for slip in [(time, command) for command in range(machine.commands)]:
                        if time not in [other for other, _ in heap]:
                            longer = plain.tray(machine, heap + (slip,))
                            wanted = tuple(entry for entry in plain.tray(machine, heap) if entry not in longer)
                            self.assertEqual(thrown_by(machine=machine, heap=list(heap[::-1]), slip=slip), wanted)

    def test_thrown_by_refuses(self):
        for slip in NO_SLIPS:
            self.fails(InvalidSlip, 0, thrown_by, NEWEST, [(1, 0)], slip)
        self.fails(InvalidSlip, 0, thrown_by, NEWEST, [(1, 0)], (1, 2))
        for slip in ((5, 0), (5, 1)):
            self.fails(Refused, 0, thrown_by, NEWEST, [(5, 0), (1, 0)], slip)

    def test_the_new_slip_is_not_told(self):
        self.assertEqual(thrown_by(NEWEST, [(4, 1)], (5, 0)), ((4, 1),))
        self.assertEqual(thrown_by(NEWEST, [(4, 1)], (3, 0)), ())
        self.assertEqual(thrown_by(NEWEST, (), (3, 0)), ())

    def test_of_both(self):
        for machine in machines():
            for heap in plain.heaps(machine.commands, TIMES[:3]):
                for size in range(len(heap) + 1):
                    for one in itertools.combinations(heap, size):
                        other = [slip for slip in heap if slip not in one]
                        found = tray_of_both(machine, list(one[::-1]), other)
                        self.assertEqual(found, plain.tray(machine, heap))

    def test_of_both_refuses(self):
        self.fails(Refused, 0, tray_of_both, NEWEST, [(5, 0), (1, 0)], [(2, 0), (5, 1)])
        self.fails(Refused, 0, tray_of_both, NEWEST, [(5, 0)], [(5, 0)])
        self.fails(Refused, 0, tray_of_both, machine=FIRST, one=((0, 0),), other=((0, 1), (3, 1)))
        self.fails(InvalidSlip, 2, tray_of_both, NEWEST, [(5, 0)], [(5, 0), (6, 0), None])

    def test_trays_of_parts(self):
        for machine in sighted():
            for heap in plain.heaps(machine.commands, TIMES):
                whole = tray(machine, heap)
                self.assertEqual(tray(machine, whole), whole)
                for size in range(len(heap) + 1):
                    for part in itertools.combinations(heap, size):
                        found = tray(machine, part)
                        self.assertTrue(all(slip in found for slip in whole if slip in part))
                        rest = [slip for slip in heap if slip not in part]
                        self.assertLessEqual(set(whole), set(found + tray(machine, rest)))
                        if set(whole) <= set(part):
                            self.assertIs(holds_tray(machine, heap, found), True)

    def test_machines_in_turn(self):
        for _ in range(2):
            self.assertEqual(tray(NEWEST, [(1, 1), (2, 0)]), ((2, 0),))
            self.assertEqual(tray(Machine(2, [(0, 0), (1, 1)]), [(1, 1), (2, 0)]), ())
            self.assertEqual(tray(CARDS, [(1, 1), (2, 0)]), ((1, 1), (2, 0)))


if __name__ == "__main__":
    unittest.main()
