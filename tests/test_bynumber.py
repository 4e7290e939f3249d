import itertools
import unittest

from lateslips.bynumber import ends_by_number, is_number_fault, number_fault
from lateslips.changes import is_blind
from lateslips.errors import InvalidQuestion
from lateslips.machines import Machine
from tests import plain
from tests.case import (
    CARDS, CARDS_AND_STOCKS, Case, DOWN, FIRST, LONG, NEWEST, NO_COMMANDS, ONE, SUMS, TURN_AND_END, WIDE_HEAVY,
)

# The rows of their number faults have at least 2 and 3 commands.
LATE_FAULT = Machine(2, [(1, 2), (0, 2), (0, 2)])
LATER_FAULT = Machine(2, [(2, 1), (0, 1), (3, 1), (2, 1)])
# Of two rows that lead state 2 to state 0 only one does so behind command 0.
EQUAL_STATES = Machine(2, [(0, 0), (0, 1), (1, 0)])
NO_STATES = plain.NO_NUMBERS + (2, 10 ** 20)


def machines():
    return list(plain.some_machines(40, "by number", states=(1, 4))) + plain.some_sighted(20, "by number", states=(2, 4)) + [
        FIRST, NEWEST, SUMS, CARDS, DOWN, TURN_AND_END, ONE, Machine(2, [(1, 2), (2, 0), (0, 1)]), LATE_FAULT,
        LATER_FAULT, EQUAL_STATES,
    ]


def wide_machines():
    return [LONG, WIDE_HEAVY, CARDS_AND_STOCKS, plain.WIDE] + list(plain.some_machines(3, "wide", (5, 5), (10, 10)))


def pairs_by_number(machine, command):
    """For 0, 1, 2, .. the pairs to which the command and a row, and the row alone, lead; and from which number on they recur."""
    found = [frozenset((machine.steps[state][command], state) for state in range(machine.states))]
    while True:
        ahead = frozenset(pair for one, other in found[-1] for pair in zip(machine.steps[one], machine.steps[other]))
        if ahead in found:
            return found, found.index(ahead)
        found.append(ahead)


def plain_ends(machine, now, many, command):
    found, back = pairs_by_number(machine, command)
    if many >= len(found):
        many = back + (many - back) % (len(found) - back)
    return tuple(sorted(end for end, reached in found[many] if reached == now))


def fault_length(machine):
    """The number of commands in the rows of a shortest number fault, None if there is none."""
    told = []
    for command in range(machine.commands):
        for many, pairs in enumerate(pairs_by_number(machine, command)[0]):
            if len({reached for _, reached in pairs}) < len(pairs):
                told.append(many)
                break
    return min(told, default=None)


def is_fault(machine, value):
    if type(value) is not tuple or len(value) != 5:
        return False
    s, t, x, u, w = value
    if not plain.is_below(s, machine.states) or not plain.is_below(t, machine.states):
        return False
    if not plain.is_below(x, machine.commands) or not plain.is_row(machine, u) or not plain.is_row(machine, w):
        return False
    if len(u) != len(w) or plain.lead(machine.steps, s, u) != plain.lead(machine.steps, t, w):
        return False
    return plain.lead(machine.steps, s, (x,) + u) != plain.lead(machine.steps, t, (x,) + w)


class EndsTest(Case):
    def test_as_shown(self):
        self.assertEqual(ends_by_number(newest(), 1, 10 ** 18, 0), (1,))

    def test_all_short_rows(self):
        for machine in machines():
            for many in range(4):
                rows = list(itertools.product(range(machine.commands), repeat=many))
                for command in range(machine.commands):
                    ends = [set() for _ in range(machine.states)]
                    for state, row in itertools.product(range(machine.states), rows):
                        reached = plain.lead(machine.steps, state, row)
                        ends[reached].add(plain.lead(machine.steps, state, (command,) + row))
                    for now in range(machine.states):
                        self.assertEqual(ends_by_number(machine, now, many, command), tuple(sorted(ends[now])))

    def test_longer_rows(self):
        for machine in machines():
            for many in (4, 5, 6, 7, 12, 31, 64, 1000, 10 ** 9 + 7, 10 ** 18 - 1, 10 ** 18):
                for now, command in itertools.product(range(machine.states), range(machine.commands)):
                    found = ends_by_number(machine, now, many, command)
                    self.assertEqual(found, plain_ends(machine, now, many, command))
                    self.assertIs(type(found), tuple)

    def test_no_and_one_command(self):
        self.assertEqual(ends_by_number(machine=SUMS, now=2, many=0, command=0), (0,))
        self.assertEqual(ends_by_number(DOWN, 0, 1, 1), (0,))
        self.assertEqual(ends_by_number(DOWN, 0, 1, 0), (0,))
        self.assertEqual(ends_by_number(DOWN, 1, 1, 0), (0,))
        self.assertEqual(ends_by_number(CARDS, 0, 0, 1), (0,))
        self.assertEqual(ends_by_number(CARDS, 0, 1, 1), (0, 2))
        self.assertEqual(ends_by_number(ONE, 0, 10 ** 18, 0), (0,))

    def test_none(self):
        self.assertEqual(ends_by_number(Machine(1, [(0,), (0,)]), 1, 1, 0), ())
        self.assertEqual(ends_by_number(Machine(1, [(0,), (0,)]), 1, 0, 0), (0,))
        self.assertEqual(ends_by_number(DOWN, 2, 10 ** 18, 1), (2,))

    def test_which_error_goes_first(self):
        for value in NO_STATES:
            self.fails(InvalidQuestion, 1, ends_by_number, newest(), value, None, None)
        for value in plain.NO_NUMBERS + (10 ** 18 + 1, 10 ** 30):
            self.fails(InvalidQuestion, 2, ends_by_number, newest(), 0, value, None)
        for value in NO_COMMANDS:
            self.fails(InvalidQuestion, 3, ends_by_number, newest(), 0, 10 ** 18, value)
        # A blind machine is refused nothing here.
        self.assertEqual(ends_by_number(FIRST, 1, 1, 1), (1, 2))

    def test_at_the_limits(self):
        for machine in wide_machines():
            for many in (0, 1, 9, 10 ** 18):
                for now in (0, 5, 9):
                    found = ends_by_number(machine, now, many, 4)
                    self.assertEqual(found, plain_ends(machine, now, many, 4))


class NumberFaultTest(Case):
    def test_as_shown(self):
        self.assertIsNone(number_fault(newest()))

    def test_as_short_as_any_has(self):
        told = set()
        for machine in machines() + wide_machines():
            found = number_fault(machine)
            self.assertEqual(number_fault(machine=machine), found)
            length = fault_length(machine)
            if length is None:
                self.assertIsNone(found)
            else:
                self.assertTrue(is_fault(machine, found))
                self.assertIs(is_number_fault(machine, found), True)
                self.assertEqual((len(found[3]), len(found[4])), (length, length))
            told.add(length)
        self.assertEqual(told, {None, 1, 2, 3})

    def test_all_small_machines(self):
        for machine in itertools.chain(plain.every_machine(1, 3), plain.every_machine(2, 2)):
            found = number_fault(machine)
            self.assertEqual(found is None, fault_length(machine) is None)
            self.assertTrue(found is None or is_fault(machine, found))

    def test_a_machine_without_one_is_not_blind(self):
        for machine in machines():
            if number_fault(machine) is None:
                self.assertFalse(is_blind(machine))

    def test_one_to_one_commands_that_may_change_places(self):
        turns = list(itertools.permutations(range(3)))
        for one, other in itertools.product(turns, repeat=2):
            machine = Machine(2, list(zip(one, other)))
            wanted = all(plain.is_free(machine, command, ()) for command in (0, 1))
            self.assertEqual(number_fault(machine) is None, wanted)

    def test_machines_in_turn(self):
        for _ in range(2):
            told = [number_fault(machine) is None for machine in (FIRST, newest(), SUMS, CARDS, ONE)]
            self.assertEqual(told, [False, True, True, False, True])


class IsNumberFaultTest(Case):
    def test_all_small_values(self):
        for machine in (FIRST, newest(), SUMS, CARDS, DOWN, EQUAL_STATES):
            places = range(machine.states)
            rows = list(plain.rows(machine.commands, 2))
            for value in itertools.product(places, places, range(machine.commands), rows, rows):
                self.assertIs(is_number_fault(machine, value), is_fault(machine, value))

    def test_values_with_one_place_changed(self):
        for machine in machines():
            found = number_fault(machine)
            for value in plain.changed(found) if found is not None else (None, (), (0, 0, 0, (), ())):
                self.assertIs(is_number_fault(machine, value), is_fault(machine, value))

    def test_equal_states_and_unlike_lengths(self):
        self.assertTrue(is_fault(EQUAL_STATES, (2, 2, 0, (0, 0), (1, 1))))
        self.assertIs(is_number_fault(machine=EQUAL_STATES, value=(2, 2, 0, (0, 0), (1, 1))), True)
        self.assertIs(is_number_fault(EQUAL_STATES, (2, 2, 0, (0, 0), (1,))), False)
        self.assertIs(is_number_fault(EQUAL_STATES, (2, 2, 0, (0, 0), (0, 0))), False)
        # But for its length, this one would be a fault.
        self.assertEqual([plain.lead(CARDS.steps, 0, row) for row in ((), (1,), (1, 0), (1, 1))], [0, 0, 1, 0])
        self.assertIs(is_number_fault(CARDS, (1, 0, 1, (), (0,))), False)
        self.assertIs(is_number_fault(CARDS, (1, 0, 1, (1, 1), (0,))), False)

    def test_what_is_none(self):
        s, t, x, u, w = found = number_fault(CARDS)
        for value in (
            None, 0, "", (), found[:4], found + ((),), list(found), (s, t, x, list(u), w), (s, t, x, u, list(w)),
            (s, t, bool(x), u, w), (s, t, x, u, None), (s, t, x, None, w), (None, t, x, u, w), (s, 3, x, u, w), (s, t, 2, u, w),
            (s, t, x, u, (True,) * len(w)), (float(s), t, x, u, w), (s, t, x, u, w + (0,)), {}, CARDS,
        ):
            self.assertIs(is_number_fault(CARDS, value), False)

    def test_long_rows(self):
        s, t, x, u, w = number_fault(CARDS)
        even = (0,) * (10000 - len(u))
        self.assertIs(is_number_fault(CARDS, (s, t, x, u + even, w + even)), True)
        self.assertIs(is_number_fault(CARDS, (s, t, x, u + even, w + even[1:])), False)


def newest():
    """A machine of its own each time."""
    return Machine(2, [(0, 1), (0, 1)])


if __name__ == "__main__":
    unittest.main()
