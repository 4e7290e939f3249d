import itertools
import random
import unittest

from lateslips.errors import InvalidSlip, Refused
from lateslips.frees import clash
from lateslips.late import ends, receive, receive_all, redone
from lateslips.machines import Machine
from lateslips.trays import holds_tray, tray
from tests import plain
from tests.case import (
    CARDS, CARDS_AND_STOCKS, Case, DOWN, FIRST, LONG, NEWEST, NO_HEAPS, NO_SLIPS, ONE, SUMS, TURN_AND_END, WIDE_HEAVY,
)

TIMES = (1, 2, 5)
NO_STATES = plain.NO_NUMBERS + (2, 10 ** 20)


def sighted():
    return (
        plain.some_of_kind(8, "late", "tray") + plain.some_of_kind(4, "late", "heavy")
        + [NEWEST, SUMS, CARDS, DOWN, TURN_AND_END, ONE]
    )


def blind():
    wider = plain.some_machines(60, "late and blind", commands=(2, 2), states=(2, 4))
    return [machine for machine in wider if plain.is_blind(machine)][:12] + [FIRST]


def ways_back(machine, now, kept):
    return [state for state in range(machine.states) if plain.truth(machine, state, kept) == now]


def plain_ends(machine, now, kept, late):
    return [plain.truth(machine, state, tuple(kept) + tuple(late)) for state in ways_back(machine, now, kept)]


class EndsTest(Case):
    def test_as_shown(self):
        self.assertEqual(ends(NEWEST, 0, (), ((1, 1),)), (1,))

    def test_all_small_heaps(self):
        for machine in sighted() + blind():
            for kept in plain.heaps(machine.commands, TIMES[:2]):
                for late in plain.heaps(machine.commands, (0, 3)):
                    for now in range(machine.states):
                        self.compare(machine, now, kept, late)

    def compare(self, machine, now, kept, late):
        found = plain_ends(machine, now, kept, late)
        shuffled = (list(kept[::-1]), list(late[::-1]))
        self.assertEqual(ends(machine, now, *shuffled), tuple(sorted(set(found))))
        if found:
            for by in range(2 * len(found) + 1):
                self.assertEqual(redone(machine, now, kept, late, by=by), found[by % len(found)])
            self.assertEqual(redone(machine, now, *shuffled), found[0])
            self.assertEqual(redone(machine, now, *shuffled, by=10 ** 20), found[10 ** 20 % len(found)])
        else:
            self.fails(Refused, 2, redone, machine, now, kept, late)
            self.fails(Refused, 2, redone, machine, now, kept, late, by=3)

    def test_ends_are_told_once(self):
        self.assertEqual(ends(FIRST, 1, [(5, 0)], [(3, 1)]), (1, 2))
        self.assertEqual(ends(machine=NEWEST, now=1, kept=((4, 1),), late=((2, 0),)), (1,))
        self.assertEqual(ends(NEWEST, 0, [(4, 1)], ()), ())
        self.assertEqual(ends(DOWN, 0, [(4, 0)], [(5, 1)]), (0,))

    def test_ends_are_ascending(self):
        # Three ways back end in 8, 0 and 5.
        steps = [(5, 8), (5, 9), (2, 2), (3, 3), (4, 4), (5, 5), (6, 6), (7, 7), (8, 8), (0, 9)]
        self.assertEqual(ends(Machine(2, steps), 5, [(4, 0)], [(3, 1)]), (0, 5, 8))
        self.assertEqual([redone(Machine(2, steps), 5, [(4, 0)], [(3, 1)], by=by) for by in range(4)], [8, 0, 5, 8])

    def test_which_error_goes_first(self):
        for call in (ends, redone):
            for now in NO_STATES:
                self.fails(Refused, 0, call, NEWEST, now, None, None)
            for value, at in NO_HEAPS:
                self.fails(InvalidSlip, at, call, NEWEST, 0, value, None)
                self.fails(InvalidSlip, at, call, NEWEST, 0, [(9, 0), (8, 1), (7, 1), (5, 0)], value)
            self.fails(Refused, 1, call, NEWEST, 0, [(4, 1), (3, 1)], [(2, 0), (4, 1)])
            self.fails(Refused, 1, call, machine=NEWEST, now=0, kept=[(4, 1)], late=[(4, 0)])
            self.fails(InvalidSlip, 1, call, NEWEST, 0, [(4, 1)], [(4, 1), (4, 1)])
        self.fails(Refused, 2, redone, NEWEST, 0, [(4, 1)], [(3, 1)])
        self.fails(Refused, 2, redone, machine=NEWEST, now=0, kept=[(4, 1)], late=(), by=7)

    def test_by_is_passed_by_name(self):
        self.by_name_alone(redone, NEWEST, 0, (), (), 1)
        self.by_name_alone(receive, NEWEST, 0, (), (1, 0), 1)
        self.by_name_alone(receive_all, NEWEST, 0, (), 1)

    def test_any_way_back_is_right(self):
        for machine in sighted():
            for heap in plain.heaps(machine.commands, TIMES):
                for kept in kept_ones(machine, heap):
                    for state, late in itertools.product(range(machine.states), lates(machine)):
                        now = plain.truth(machine, state, heap)
                        wanted = plain.truth(machine, state, heap + late)
                        self.assertEqual(ends(machine, now, kept, late), (wanted,))

    def test_none_of_a_tray_can_go(self):
        for machine in sighted():
            for heap in plain.heaps(machine.commands, TIMES):
                for place, slip in enumerate(heap):
                    newer = heap[place:]
                    if slip in tray(machine, newer):
                        self.goes_wrong_without(machine, slip, newer)

    def goes_wrong_without(self, machine, slip, newer):
        state, x = clash(machine, slip[1], [command for _, command in newer[1:]])
        now = plain.truth(machine, state, newer)
        kept = [other for other in tray(machine, newer) if other != slip]
        found = ends(machine, now, kept, [(0, x)])
        self.assertTrue(set(found) - {plain.truth(machine, state, newer + ((0, x),))})


def kept_ones(machine, heap):
    """All that is enough for the heap."""
    least = set(plain.tray(machine, heap))
    for size in range(len(heap) + 1):
        for kept in itertools.combinations(heap, size):
            if least <= set(kept):
                yield kept


def lates(machine):
    yield ()
    for one, other in itertools.product(range(machine.commands), repeat=2):
        yield ((3, one),)
        yield ((0, one), (9, other))


class ReceiveTest(Case):
    def test_as_shown(self):
        self.assertEqual(receive(NEWEST, 1, ((4, 1),), (2, 0)), (1, ((4, 1),)))
        self.assertEqual(receive_all(NEWEST, 0, [(4, 1), (6, 0), (5, 1)]), (0, ((6, 0),)))

    def test_one_slip(self):
        for machine in sighted() + blind():
            for kept in plain.heaps(machine.commands, TIMES[:2]):
                for now, time, command in itertools.product(
                        range(machine.states), (0, 3), range(machine.commands)):
                    found = plain_ends(machine, now, kept, [(time, command)])
                    longer = plain.tray(machine, kept + ((time, command),))
                    if not found:
                        self.fails(Refused, 2, receive, machine, now, kept, (time, command))
                    else:
                        self.assertEqual(receive(machine, now, kept, (time, command)), (found[0], longer))
                    for by in range(len(found) + 1 if found else 0):
                        told = receive(machine, now, list(kept[::-1]), (time, command), by=by)
                        self.assertEqual(told, (found[by % len(found)], longer))

    def test_receive_refuses(self):
        for now in NO_STATES:
            self.fails(Refused, 0, receive, NEWEST, now, None, None)
        for value, at in NO_HEAPS:
            self.fails(InvalidSlip, at, receive, NEWEST, 0, value, None)
        for slip in NO_SLIPS:
            self.fails(InvalidSlip, 0, receive, NEWEST, 0, [(3, 1), (4, 1)], slip)
        self.fails(Refused, 1, receive, NEWEST, 0, [(3, 1), (4, 1)], (4, 1))
        self.fails(Refused, 1, receive, NEWEST, 0, [(3, 1), (4, 1)], (3, 0))
        self.fails(Refused, 2, receive, machine=NEWEST, now=0, kept=[(3, 1)], slip=(4, 1), by=0)

    def test_receive_all_refuses(self):
        for state in NO_STATES:
            self.fails(Refused, 0, receive_all, NEWEST, state, None)
        for value, at in NO_HEAPS:
            self.fails(InvalidSlip, at, receive_all, NEWEST, 0, value)
        # In a blind machine what is kept need not lead anything to what stands.
        blind_one = Machine(2, [(0, 3), (3, 0), (0, 1), (0, 2)])
        slips = [(2, 1), (3, 1), (1, 0), (5, 0), (4, 1)]
        self.assertEqual(plain_told(blind_one, 1, slips), 2)
        self.fails(Refused, 2, receive_all, blind_one, 1, slips)
        self.fails(Refused, 2, receive_all, machine=blind_one, state=1, slips=tuple(slips), by=9)
        self.assertEqual(receive_all(blind_one, 1, slips[:4]), plain_told(blind_one, 1, slips[:4]))

    def test_in_any_order(self):
        for machine in sighted():
            for heap in plain.heaps(machine.commands, TIMES):
                for slips in itertools.permutations(heap):
                    for state, by in itertools.product(range(machine.states), (0, 1)):
                        now, kept = receive_all(machine, state, list(slips), by=by)
                        self.assertEqual(now, plain.truth(machine, state, heap))
                        self.assertIs(holds_tray(machine, heap, kept), True)

    def test_step_by_step(self):
        for machine in sighted() + blind():
            for heap in plain.heaps(machine.commands, TIMES[:2]):
                for slips in itertools.permutations(heap):
                    for state in range(machine.states):
                        self.assertEqual(told(machine, state, slips), plain_told(machine, state, slips))

    def test_empty(self):
        self.assertEqual(receive_all(machine=NEWEST, state=1, slips=[], by=5), (1, ()))
        self.assertEqual(receive_all(FIRST, 2, ()), (2, ()))
        self.assertEqual(receive(ONE, 0, [], (0, 0)), (0, ()))

    def test_at_the_limits(self):
        chance = random.Random("late")
        for machine in (LONG, WIDE_HEAVY, CARDS_AND_STOCKS, plain.WIDE, CARDS):
            slips = [(3 * time, chance.randrange(machine.commands)) for time in range(200)]
            wanted = plain.truth(machine, 1, slips)
            for by in (0, 10 ** 20 + 1):
                chance.shuffle(slips)
                now, kept = receive_all(machine, 1, slips, by=by)
                self.assertEqual(now, wanted)
                self.assertIs(holds_tray(machine, slips, kept), True)

    def test_slips_changed_later(self):
        slips = [(4, 1), (6, 0)]
        found = receive_all(NEWEST, 0, slips)
        self.assertEqual(slips, [(4, 1), (6, 0)])
        slips.append((9, 1))
        self.assertEqual((found, receive_all(NEWEST, 0, slips)), ((0, ((6, 0),)), (1, ((9, 1),))))

    def test_machines_in_turn(self):
        for _ in range(2):
            self.assertEqual(receive_all(NEWEST, 0, [(4, 1), (3, 0)]), (1, ((4, 1),)))
            self.assertEqual(receive_all(CARDS, 0, [(4, 1), (3, 0)]), (2, ((3, 0), (4, 1))))
            self.assertEqual(receive_all(SUMS, 0, [(4, 0), (3, 0)]), (2, ()))


def told(machine, state, slips):
    try:
        return receive_all(machine, state, slips)
    except Refused as error:
        return error.at


def plain_told(machine, state, slips):
    pair = (state, ())
    for slip in slips:
        found = plain_ends(machine, pair[0], pair[1], [slip])
        if not found:
            return 2
        pair = (found[0], plain.tray(machine, pair[1] + (slip,)))
    return pair


if __name__ == "__main__":
    unittest.main()
