import itertools
import unittest

from lateslips.changes import blind_fault, fault, guard, is_blind, is_fault, is_guard, late_commands
from lateslips.errors import Refused
from lateslips.heaps import since, truth
from lateslips.kernels import is_within, kernel
from lateslips.machines import Machine
from lateslips.views import told
from tests import plain

NEWEST = Machine(2, [(0, 1), (0, 1)])
FIRST = Machine(2, [(1, 2), (1, 1), (2, 2)])
SWAP = Machine(1, [(1,), (0,)])
NO_CHANGES = (None, 0, [0, 1, 2], (0, 1), (0, 1, 2, 0), (0, 1, 3), (0, 1, True), (0, 1, -1), "012", (0, 1, None))


def shortest_fault(machine, change):
    """The length of the shortest row of a fault, None if there is none."""
    found = [len(row) for done, row in plain.effects(machine).items() if plain.has_fault(machine, change, done)]
    return min(found, default=None)


def changes_of(machine):
    return itertools.product(range(machine.states), repeat=machine.states)


class FaultTest(unittest.TestCase):
    def test_as_shown(self):
        self.assertEqual(fault(FIRST, (2, 1, 2)), (0, 1, (0,)))
        self.assertEqual(fault(machine=NEWEST, change=(1, 0)), None)

    def test_every_change_of_small_machines(self):
        for machine in plain.some_machines(60, "faults", commands=(1, 3), states=(1, 4)):
            for change in changes_of(machine):
                found = fault(machine, change)
                wanted = shortest_fault(machine, change)
                if wanted is None:
                    self.assertIsNone(found)
                else:
                    self.assertEqual(len(found[2]), wanted)
                    self.assertIs(is_fault(machine, change, found), True)
                    self.is_told_in_tuples(found)

    def is_told_in_tuples(self, found):
        self.assertEqual((type(found), type(found[-1])), (tuple, tuple))

    def test_which_values_are_faults(self):
        for machine in plain.some_machines(12, "which faults", commands=(1, 2), states=(2, 3)):
            for change in changes_of(machine):
                for s in range(machine.states):
                    for t in range(machine.states):
                        for row in plain.rows(machine.commands, 3):
                            pairs = plain.has_fault(machine, change, plain.ends(machine, row))
                            self.assertEqual(is_fault(machine, change, (s, t, row)), (s, t) in pairs)

    def test_values_that_are_none(self):
        good = (0, 1, (0,))
        self.assertIs(is_fault(FIRST, (2, 1, 2), good), True)
        for value in (None, 0, [0, 1, (0,)], (0, 1, [0]), (1, 0, (0,)), (False, True, (0,)), (0, True, (0,)),
                      (0, 1, (False,)), (0, 1), (0, 1, (0,), 0), (0, 1, (2,)), (0, 3, (0,)), (-1, 1, (0,)),
                      (0, 1, ()), (0, 1, None), (0, 1, (0, None)), "01", (0, 1, "0"), ((0,), 1, (0,))):
            self.assertIs(is_fault(FIRST, (2, 1, 2), value), False, value)
        self.assertIs(is_fault(machine=FIRST, change=(0, 1, 2), value=good), False)

    def test_changes_that_are_none(self):
        for change in NO_CHANGES:
            for call in (fault, guard):
                with self.assertRaises(Refused) as caught:
                    call(FIRST, change)
                self.assertEqual(caught.exception.at, 0)
            for call in (is_fault, is_guard):
                with self.assertRaises(Refused) as caught:
                    call(FIRST, change, None)
                self.assertEqual(caught.exception.at, 0)

    def test_changes_that_always_may_come_late(self):
        for machine in plain.some_machines(50, "always late"):
            self.assertIsNone(fault(machine, tuple(range(machine.states))))
            for state in range(machine.states):
                self.assertIsNone(fault(machine, (state,) * machine.states))

    def test_one_change_followed_by_another(self):
        for machine in plain.some_machines(10, "followed", states=(2, 3)):
            late = [change for change in changes_of(machine) if fault(machine, change) is None]
            for one in late:
                for other in late:
                    self.assertIsNone(fault(machine, tuple(other[state] for state in one)))

    def test_a_long_fault_of_ten_states(self):
        # Command 0 turns two loops of five and four states, command 1 joins 5 to 0.
        turn = [1, 2, 3, 4, 0, 6, 7, 8, 5, 9]
        join = [0, 1, 2, 3, 4, 0, 6, 7, 8, 9]
        machine = Machine(2, list(zip(turn, join)))
        # Only pairs with 1 may part; 1 and 5 meet when 1 and 8 do not yet.
        change = (5, 1, 5, 5, 5, 5, 5, 5, 5, 5)
        found = fault(machine, change)
        self.assertTrue(is_fault(machine, change, found))
        self.assertEqual(len(found[2]), shortest_fault_by_pairs(machine, change))
        self.assertEqual(len(found[2]), 10)


def shortest_fault_by_pairs(machine, change):
    """As `shortest_fault`, for more states: all (s, t, s', t') that come of the change, level by level."""
    level = {(s, t, change[s], change[t]) for s, t in itertools.combinations(range(machine.states), 2)}
    seen = set(level)
    for length in itertools.count():
        if any(s == t and y != z for s, t, y, z in level):
            return length
        if not level:
            return None
        following = {ends for four in level for ends in zip(*[machine.steps[state] for state in four])}
        level = following - seen
        seen |= following


class GuardTest(unittest.TestCase):
    def test_as_shown(self):
        self.assertEqual(guard(SWAP, (1, 0)), ((0, 1, 1, 0), (1, 0, 0, 1)))

    def test_a_guard_or_a_fault(self):
        for machine in plain.some_machines(40, "guards", commands=(1, 3), states=(1, 4)):
            for change in changes_of(machine):
                found = guard(machine, change)
                self.assertEqual(found is None, fault(machine, change) is not None)
                if found is not None:
                    self.assertIs(is_guard(machine, change, found), True)
                    self.without_one_it_is_none(machine, change, found)

    def without_one_it_is_none(self, machine, change, found):
        """All that stands in the least guard must: each smaller one lacks some four."""
        self.assertEqual(list(found), sorted(set(found)))
        for four in found:
            less = tuple(other for other in found if other != four)
            self.assertIs(is_guard(machine, change, less), False)

    def test_it_is_part_of_each(self):
        fours = [(p, q, y, z) for p, q in ((0, 1), (1, 0)) for y, z in ((0, 1), (1, 0))]
        for machine in plain.every_machine(1, 2):
            for change in changes_of(machine):
                least = guard(machine, change)
                for size in range(5):
                    for value in itertools.combinations(sorted(fours), size):
                        if is_guard(machine, change, value):
                            self.assertLessEqual(set(least), set(value))

    def test_a_greater_one_is_a_guard_too(self):
        both = ((0, 1, 0, 1), (0, 1, 1, 0), (1, 0, 0, 1), (1, 0, 1, 0))
        self.assertIs(is_guard(SWAP, (1, 0), both), True)
        self.assertIs(is_guard(machine=SWAP, change=(0, 0), value=()), True)
        self.assertEqual(guard(machine=SWAP, change=(0, 0)), ())

    def test_values_that_are_none(self):
        good = ((0, 1, 1, 0), (1, 0, 0, 1))
        self.assertIs(is_guard(SWAP, (1, 0), good), True)
        for value in (None, 0, list(good), good[::-1], good + good[1:], good[:1], good[1:], (), good + (None,),
                      ((0, 0, 0, 1),) + good, ((0, 1, 0, 0),) + good, (list(good[0]), good[1]),
                      ((False, True, True, False), (True, False, False, True)), ((0, 1, 1), (1, 0, 0, 1)),
                      ((0, 0, 0, 1), (0, 1, 1, 0), (1, 0, 0, 1), (1, 1, 1, 0)),
                      ((0, 1, 0, 0), (0, 1, 1, 0), (1, 0, 0, 1), (1, 0, 1, 1)),
                      ((0, 1, 1, 0), (1, 0, 0, 2)), ((0, 1, 1, 0), (1, 0, 0, 1, 0)), "0110"):
            self.assertIs(is_guard(SWAP, (1, 0), value), False, value)


class LateCommandsTest(unittest.TestCase):
    def test_as_shown(self):
        self.assertEqual(late_commands(FIRST), ())
        self.assertEqual(late_commands(NEWEST), (0, 1))

    def test_blind_ones_and_others(self):
        self.assertIs(is_blind(FIRST), True)
        self.assertIs(is_blind(NEWEST), False)
        self.assertIsNone(blind_fault(NEWEST))
        s, t, x, w = blind_fault(FIRST)
        self.assertTrue(is_fault(FIRST, plain.ends(FIRST, (x,)), (s, t, w)))
        self.assertEqual(len(w), 1)

    def test_every_machine_of_three_states(self):
        for machine in plain.every_machine(2, 3):
            self.compare(machine)

    def test_some_machines(self):
        for machine in plain.some_machines(150, "late commands"):
            self.compare(machine)

    def compare(self, machine):
        each = [plain.ends(machine, (command,)) for command in range(machine.commands)]
        lengths = [shortest_fault(machine, change) for change in each]
        wanted = tuple(command for command, length in enumerate(lengths) if length is None)
        self.assertEqual(late_commands(machine=machine), wanted)
        self.assertEqual(is_blind(machine=machine), len(wanted) < machine.commands)
        found = blind_fault(machine=machine)
        if len(wanted) == machine.commands:
            self.assertIsNone(found)
        else:
            s, t, x, w = found
            self.assertTrue(is_fault(machine, each[x], (s, t, w)))
            self.assertEqual(len(w), min(length for length in lengths if length is not None))

    def test_kernels_tell_it(self):
        for machine in plain.some_machines(40, "kernels tell it", states=(1, 4)):
            rows = list(plain.effects(machine).values())
            for command in range(machine.commands):
                inside = all(is_within(kernel(machine, row), kernel(machine, (command,) + row)) for row in rows)
                self.assertEqual(command in late_commands(machine), inside)

    def test_put_in_at_any_place(self):
        for machine in plain.some_machines(25, "put in", commands=(1, 2), states=(1, 3)):
            holds = all(
                is_within(kernel(machine, row), kernel(machine, row[:place] + (command,) + row[place:]))
                for row in plain.rows(machine.commands, 4)
                for place in range(len(row) + 1)
                for command in range(machine.commands)
            )
            self.assertEqual(is_blind(machine), not holds)

    def test_a_store_is_always_told(self):
        """Late commands come in any order, the others behind all before them: `told` is always right."""
        for machine in plain.some_machines(25, "stores", commands=(2, 2), states=(2, 4)):
            late = late_commands(machine)
            for row in plain.rows(2, 3):
                for order in itertools.permutations(range(len(row))):
                    self.tell_all(machine, late, [(place, row[place]) for place in order])

    def tell_all(self, machine, late, slips):
        for state in range(machine.states):
            now, heap = state, ()
            for slip in slips:
                if slip[1] not in late and heap and max(heap)[0] > slip[0]:
                    break
                now = told(machine, now, since(machine, heap, slip[0]), slip)
                heap += (slip,)
                self.assertEqual(now, truth(machine, state, heap))

    def test_machines_in_turn(self):
        for _ in range(2):
            self.assertEqual([is_blind(machine) for machine in (NEWEST, FIRST, SWAP)], [False, True, False])


if __name__ == "__main__":
    unittest.main()
