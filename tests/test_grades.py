import itertools
import unittest

from lateslips.changes import is_blind
from lateslips.grades import exchange_fault, grade, is_length_ladder, length_ladder, swap_fault
from lateslips.kernels import kernel
from lateslips.machines import Machine
from tests import plain
from tests.case import (
    CARDS, CARDS_AND_STOCKS, Case, DOWN, FIRST, LONG, NEWEST, ONE, SUMS, TURN_AND_END, WIDE_HEAVY,
)

TOP = Machine(2, [(0, 1), (1, 1)])
# Not blind, but two neighbours may not be swapped.
LATE_ONLY = Machine(2, [(2, 0), (2, 0), (1, 1)])
# Both commands go one down.
EVEN = Machine(2, [(0, 0), (0, 0), (1, 1), (2, 2)])


def machines():
    some = list(plain.some_machines(150, "grades", commands=(1, 3), states=(1, 4)))
    some += list(plain.every_machine(2, 2)) + list(plain.every_machine(1, 3))
    return some + plain.some_sighted(60, "grades", commands=(2, 3), states=(2, 4)) + [
        TOP, FIRST, NEWEST, SUMS, CARDS, DOWN, TURN_AND_END, ONE, EVEN, LATE_ONLY,
    ]


def plain_ladder(machine):
    """The kernels of longer and longer rows, if those of one length have one."""
    found = []
    for length in range(machine.states + 2):
        told = {plain.kernel(machine, row) for row in itertools.product(range(machine.commands), repeat=length)}
        if len(told) > 1:
            return None
        found.append(told.pop())
    return tuple(value for at, value in enumerate(found) if value not in found[:at])


def plain_fault(machine, turned):
    pairs = list(itertools.combinations(range(machine.commands), 2))
    for since in plain.shortest_rows(machine):
        for a, b in pairs:
            one, other = ((a, b), (b, a)) if turned else ((a,), (b,))
            if plain.kernel(machine, one + since) != plain.kernel(machine, other + since):
                return (a, b, since)


class GradeTest(Case):
    def test_as_shown(self):
        self.assertEqual((grade(TOP), exchange_fault(TOP), swap_fault(TOP)), (2, (0, 1, ()), None))

    def test_against_plain_reckoning(self):
        told = []
        for machine in machines():
            self.assertEqual(grade(machine), plain.grade(machine))
            told.append(grade(machine=machine))
        self.assertEqual(sorted(set(told)), [0, 1, 2, 3, 4])

    def test_each_grade(self):
        named = ((FIRST, 0), (LATE_ONLY, 1), (TOP, 2), (NEWEST, 3), (SUMS, 4), (ONE, 4), (CARDS, 4), (DOWN, 2), (EVEN, 3))
        for machine, wanted in named:
            self.assertEqual((grade(machine), plain.grade(machine)), (wanted, wanted))
        late = [machine for machine in machines() if plain.grade(machine) == 1]
        self.assertTrue(late)
        for machine in late:
            self.assertEqual((is_blind(machine), grade(machine)), (False, 1))

    def test_one_state_or_one_command(self):
        for commands in (1, 2, 5):
            self.assertEqual(grade(Machine(commands, [(0,) * commands])), 4)
        self.assertEqual(grade(Machine(1, [(0,), (0,)])), 3)
        self.assertEqual(grade(Machine(1, [(1,), (2,), (2,)])), 3)
        self.assertEqual(grade(Machine(1, [(1,), (0,)])), 4)

    def test_kernels_tell_the_grade(self):
        for machine in machines():
            lengths, counts = {}, {}
            for row in plain.rows(machine.commands, 5 if machine.commands < 3 else 4):
                lengths.setdefault(len(row), set()).add(plain.kernel(machine, row))
                counts.setdefault(tuple(sorted(row)), set()).add(plain.kernel(machine, row))
            if grade(machine) >= 3:
                self.assertTrue(all(len(found) == 1 for found in lengths.values()))
            if grade(machine) >= 2:
                self.assertTrue(all(len(found) == 1 for found in counts.values()))
            # Faults have rows of at most n - 2 commands, so within these lengths they show.
            if all(len(found) == 1 for found in lengths.values()):
                self.assertGreaterEqual(grade(machine), 3)
            if all(len(found) == 1 for found in counts.values()):
                self.assertGreaterEqual(grade(machine), 2)
            self.assertEqual(grade(machine) >= 1, not is_blind(machine))

    def test_at_the_limits(self):
        self.assertEqual([grade(machine) for machine in (LONG, CARDS_AND_STOCKS, WIDE_HEAVY, plain.WIDE)], [2, 2, 2, 2])
        for machine in plain.some_machines(4, "wide", (5, 5), (10, 10)):
            self.assertEqual((grade(machine), is_blind(machine)), (0, True))
        self.assertEqual(grade(Machine(5, [[9 - s] * 4 + [(s + 1) % 10] for s in range(10)])), 4)

    def test_machines_in_turn(self):
        for _ in range(2):
            self.assertEqual([grade(machine) for machine in (TOP, SUMS, FIRST, NEWEST)], [2, 4, 0, 3])


class LadderTest(Case):
    def test_against_plain_reckoning(self):
        for machine in machines():
            wanted = plain_ladder(machine)
            self.assertEqual(length_ladder(machine), wanted)
            self.assertEqual(wanted is None, plain.grade(machine) < 3)
            self.assertIs(is_length_ladder(machine, wanted), wanted is not None)

    def test_named_ones(self):
        self.assertEqual(length_ladder(NEWEST), ((0, 1), (0, 0)))
        self.assertEqual(length_ladder(machine=EVEN), ((0, 1, 2, 3), (0, 0, 2, 3), (0, 0, 0, 3), (0, 0, 0, 0)))
        self.assertEqual((length_ladder(SUMS), length_ladder(ONE)), (((0, 1, 2),), ((0,),)))
        self.assertEqual((length_ladder(TOP), length_ladder(FIRST)), (None, None))

    def test_in_the_order_of_the_lengths(self):
        machine = Machine(1, [(1,), (1,), (0,), (3,)])
        self.assertEqual(length_ladder(machine), ((0, 1, 2, 3), (0, 0, 2, 3), (0, 0, 0, 3)))

    def test_values_with_one_place_changed(self):
        for machine in machines():
            wanted = length_ladder(machine)
            for value in plain.changed(wanted) if wanted is not None else ((), ((0,),), None, [], (None,)):
                same = value == wanted and repr(value) == repr(wanted)
                self.assertIs(is_length_ladder(machine, value), same and wanted is not None)

    def test_one_kernel_too_many_or_too_few(self):
        told = length_ladder(EVEN)
        for value in (told[:-1], told[1:], told + told[-1:], (told[0],) + told, told[::-1], (), list(told), None, 0):
            self.assertIs(is_length_ladder(EVEN, value), False)
        for at in range(4):
            self.assertIs(is_length_ladder(EVEN, told[:at] + (list(told[at]),) + told[at + 1:]), False)
        self.assertIs(is_length_ladder(machine=EVEN, value=told), True)
        self.assertIs(is_length_ladder(NEWEST, ((0, 1), (0, False))), False)
        self.assertIs(is_length_ladder(NEWEST, ((0, True), (0, 0))), False)
        self.assertIs(is_length_ladder(TOP, None), False)
        self.assertIs(is_length_ladder(TOP, ((0, 1), (0, 0))), False)

    def test_ten_states(self):
        down = Machine(5, [(max(s - 1, 0),) * 5 for s in range(10)])
        told = length_ladder(down)
        self.assertEqual(told, tuple(kernel(down, (0,) * many) for many in range(10)))
        self.assertIs(is_length_ladder(down, told), True)


class FaultsTest(Case):
    def test_against_plain_reckoning(self):
        for machine in machines():
            self.assertEqual(exchange_fault(machine), plain_fault(machine, False))
            self.assertEqual(swap_fault(machine), plain_fault(machine, True))
            self.assertEqual(exchange_fault(machine=machine) is None, plain.grade(machine) >= 3)
            self.assertEqual(swap_fault(machine=machine) is None, plain.grade(machine) >= 2)

    def test_longer_rows(self):
        one = Machine(2, [(0, 0), (2, 3), (0, 2), (3, 1)])
        two = Machine(2, [(4, 0), (0, 1), (3, 3), (1, 2), (4, 4)])
        self.assertEqual((swap_fault(one), plain_fault(one, True)), ((0, 1, (0,)),) * 2)
        self.assertEqual((swap_fault(two), plain_fault(two, True)), ((0, 1, (0, 0)),) * 2)
        three = Machine(2, [(1, 0), (2, 1), (2, 1), (0, 3)])
        self.assertEqual((exchange_fault(three), plain_fault(three, False)), ((0, 1, (0,)),) * 2)
        for machine in plain.some_machines(100, "long grades", commands=(3, 3), states=(3, 4)):
            self.assertEqual(exchange_fault(machine), plain_fault(machine, False))
            self.assertEqual(swap_fault(machine), plain_fault(machine, True))

    def test_how_long_they_are(self):
        for machine in list(plain.some_machines(200, "bound", commands=(1, 3), states=(2, 6))) + machines():
            for found in (exchange_fault(machine), swap_fault(machine)):
                if found is not None:
                    self.assertLessEqual(len(found[2]), machine.states - 2)

    def test_the_longest_ones(self):
        # Only the last state shows that the commands differ, when all others have come together.
        for states in range(3, 11):
            steps = [(max(s - 1, 0),) * 2 for s in range(states - 1)] + [(states - 2, states - 1)]
            self.assertEqual(exchange_fault(Machine(2, steps)), (0, 1, (0,) * (states - 2)))

    def test_at_the_limits(self):
        for machine in (LONG, CARDS_AND_STOCKS, WIDE_HEAVY, plain.WIDE):
            one, other, since = exchange_fault(machine)
            self.assertNotEqual(kernel(machine, (one,) + since), kernel(machine, (other,) + since))
            for row in plain.rows(5, len(since) - 1):
                self.assertEqual(len({kernel(machine, (command,) + row) for command in range(5)}), 1)
            self.assertIsNone(swap_fault(machine))
        for machine in plain.some_machines(4, "wide", (5, 5), (10, 10)):
            one, other, since = swap_fault(machine)
            self.assertLess(one, other)
            self.assertNotEqual(kernel(machine, (one, other) + since), kernel(machine, (other, one) + since))


if __name__ == "__main__":
    unittest.main()
