import itertools
import random
import unittest

from lateslips.errors import InvalidRow, Refused
from lateslips.kernels import is_within, kernel
from lateslips.machines import Machine
from lateslips.mending import can_be_mended, is_mending_fault, may_become, mended_states, mending_fault
from tests import plain
from tests.case import CARDS, Case, DOWN, FIRST, LONG, NEWEST, NO_ROWS, ONE, SUMS, TURN_AND_END, WIDE_HEAVY

TOP = Machine(2, [(0, 1), (1, 1)])
NO_STATES = plain.NO_NUMBERS + (2, 10 ** 20)


def machines():
    return list(plain.some_machines(25, "mending", commands=(1, 2), states=(1, 4))) + [
        TOP, FIRST, NEWEST, SUMS, CARDS, DOWN, TURN_AND_END, ONE,
    ]


def plain_states(machine, now, row, other, since):
    done, wanted = plain.ends(machine, row + since), plain.ends(machine, other + since)
    return tuple(sorted({wanted[s] for s in range(machine.states) if done[s] == now}))


def plain_fault(machine, row, other):
    for since in plain.shortest_rows(machine):
        found = plain.apart(machine, row, other, since)
        if found:
            return found[0] + (since,)


def is_fault(machine, row, other, value):
    if type(value) is not tuple or len(value) != 3 or not plain.is_row(machine, value[2]):
        return False
    if not all(plain.is_below(state, machine.states) for state in value[:2]):
        return False
    return tuple(sorted(value[:2])) in plain.apart(machine, row, other, value[2])


class MendedTest(Case):
    def test_as_shown(self):
        self.assertEqual(mended_states(TOP, 1, [1], [0]), (0, 1))
        self.assertEqual(mended_states(TOP, 1, [1], [0], since=[1]), (1,))

    def test_all_short_rows(self):
        for machine in machines():
            for row, other in itertools.product(plain.rows(machine.commands, 2), repeat=2):
                for since in plain.rows(machine.commands, 1):
                    told = [plain_states(machine, now, row, other, since) for now in range(machine.states)]
                    found = [mended_states(machine, now, row, other, since=since) for now in range(machine.states)]
                    self.assertEqual(found, told)
                    wanted = all(len(states) < 2 for states in told)
                    self.assertIs(can_be_mended(machine, row, other, since=since), wanted)

    def test_kernels_tell_it(self):
        for machine in machines():
            for row, other, since in itertools.product(plain.rows(machine.commands, 1), repeat=3):
                wanted = is_within(kernel(machine, row + since), kernel(machine, other + since))
                self.assertIs(can_be_mended(machine, row, other, since=since), wanted)

    def test_arguments_by_name(self):
        found = mended_states(machine=TOP, now=1, row=(1,), other=[0], since=())
        self.assertEqual(found, (0, 1))
        self.assertIs(can_be_mended(machine=TOP, row=(1,), other=[0]), False)
        self.assertIs(can_be_mended(machine=TOP, row=(1,), other=[0], since=[1]), True)
        self.by_name_alone(mended_states, TOP, 1, [1], [0], [1])
        self.by_name_alone(can_be_mended, TOP, [1], [0], [1])

    def test_none(self):
        self.assertEqual(mended_states(NEWEST, 0, (1,), (0,)), ())
        self.assertEqual(mended_states(ONE, 0, (0, 0), ()), (0,))
        self.assertEqual(mended_states(SUMS, 0, (), ()), (0,))

    def test_which_error_goes_first(self):
        for now in NO_STATES:
            for rows in ((None, None), ((), (0,)), ([5], ())):
                self.fails(Refused, 0, mended_states, TOP, now, *rows)
                self.fails(Refused, 0, mended_states, TOP, now, *rows, since=None)
        for value, at in NO_ROWS:
            self.fails(InvalidRow, at, mended_states, TOP, 0, value, [0, 0, 0, 7], since=[0, 0, 0, 0, 7])
            self.fails(InvalidRow, at, mended_states, TOP, 0, [1, 0], value, since=[0, 0, 0, 0, 7])
            self.fails(InvalidRow, at, mended_states, TOP, 0, [1, 0], [0], since=value)
            self.fails(InvalidRow, at, can_be_mended, TOP, value, [0, 0, 0, 7], since=[0, 0, 0, 0, 7])
            self.fails(InvalidRow, at, can_be_mended, TOP, [1, 0], value, since=[0, 0, 0, 0, 7])
            self.fails(InvalidRow, at, can_be_mended, TOP, [1, 0], [0], since=value)

    def test_long_rows(self):
        chance = random.Random("mending")
        for machine in (LONG, WIDE_HEAVY, plain.WIDE):
            row, other, since = [[chance.randrange(5) for _ in range(10000)] for _ in range(3)]
            told = [mended_states(machine, now, row, other, since=since) for now in range(10)]
            self.assertEqual(told, [plain_states(machine, now, row, other, since) for now in range(10)])
            self.assertIs(can_be_mended(machine, row, other, since=since), all(len(states) < 2 for states in told))

    def test_rows_stay_as_they_are(self):
        row, other, since = [1, 0], [0], [1]
        found = mended_states(NEWEST, 1, row, other, since=since)
        self.assertEqual((row, other, since), ([1, 0], [0], [1]))
        row.clear()
        self.assertEqual(found, (1,))


class MendingFaultTest(Case):
    def test_as_shown(self):
        self.assertEqual(mending_fault(TOP, [1], [0]), (0, 1, ()))

    def test_all_short_rows(self):
        for machine in machines():
            for row, other in itertools.product(plain.rows(machine.commands, 2), repeat=2):
                wanted = plain_fault(machine, row, other)
                self.assertEqual(mending_fault(machine, row, list(other)), wanted)
                self.assertIs(may_become(machine, list(row), other), wanted is None)
                if wanted is not None:
                    self.assertIs(is_mending_fault(machine, row, other, wanted), True)

    def test_longer_rows(self):
        longest = 0
        for machine in plain.some_machines(150, "long mending", commands=(2, 2), states=(4, 5)):
            for a, b in ((0, 1), (1, 0)):
                found = mending_fault(machine, (a,), (b,))
                self.assertEqual(found, plain_fault(machine, (a,), (b,)))
                if found is not None:
                    longest = max(longest, len(found[2]))
        self.assertGreaterEqual(longest, 2)

    def test_the_first_of_the_shortest(self):
        for machine in plain.some_machines(60, "first", commands=(3, 3), states=(3, 4)):
            for row, other in plain.unlike_commands(machine):
                found = mending_fault(machine, (row,), (other,))
                self.assertEqual(found, plain_fault(machine, (row,), (other,)))

    def test_ahead_of_and_behind_both(self):
        for machine in machines()[::2]:
            rows = list(plain.rows(machine.commands, 1))
            for row, other in itertools.product(rows, repeat=2):
                if may_become(machine, row, other):
                    for more in plain.rows(machine.commands, 2):
                        self.assertIs(may_become(machine, more + row, more + other), True)
                        self.assertIs(may_become(machine, row + more, other + more), True)
                    for third in rows:
                        if may_become(machine, other, third):
                            self.assertIs(may_become(machine, row, third), True)

    def test_whatever_follows(self):
        for machine in machines()[::3]:
            for row, other in itertools.product(plain.rows(machine.commands, 1), repeat=2):
                told = [can_be_mended(machine, row, other, since=since) for since in plain.effects(machine).values()]
                self.assertIs(may_become(machine=machine, row=row, other=other), all(told))

    def test_values_with_one_place_changed(self):
        for machine in machines():
            for row, other in itertools.permutations(plain.rows(machine.commands, 1), 2):
                found = mending_fault(machine, row, other)
                for value in plain.changed(found) if found is not None else (None, (), (0, 0, ()), (0, 0, (0,))):
                    wanted = is_fault(machine, row, other, value)
                    self.assertIs(is_mending_fault(machine, row, other, value), wanted)

    def test_all_small_values(self):
        for machine in (TOP, FIRST, NEWEST, DOWN):
            for row, other in itertools.product(plain.rows(2, 1), repeat=2):
                places = range(machine.states)
                for value in itertools.product(places, places, plain.rows(2, 2)):
                    wanted = is_fault(machine, row, other, value)
                    self.assertIs(is_mending_fault(machine, row, other, value), wanted)

    def test_the_states_in_either_order_and_longer_rows(self):
        self.assertIs(is_mending_fault(TOP, [1], [0], (1, 0, ())), True)
        self.assertIs(is_mending_fault(machine=TOP, row=[1], other=(0,), value=(0, 1, (0,) * 10000)), True)
        self.assertIs(is_mending_fault(TOP, [1], [0], (0, 1, [])), False)
        self.assertIs(is_mending_fault(TOP, [1], [0], [0, 1, ()]), False)
        self.assertIs(is_mending_fault(TOP, [1], [0], (False, True, ())), False)
        self.assertIs(is_mending_fault(TOP, [1], [0], (0, 0, ())), False)

    def test_which_rows_are_refused(self):
        for value, at in NO_ROWS:
            for call in (may_become, mending_fault):
                self.fails(InvalidRow, at, call, TOP, value, [0, 0, 0, 7])
                self.fails(InvalidRow, at, call, TOP, [1, 0], value)
            self.fails(InvalidRow, at, is_mending_fault, TOP, value, [0, 0, 0, 7], None)
            self.fails(InvalidRow, at, is_mending_fault, TOP, [1, 0], value, None)

    def test_at_the_limits(self):
        chance = random.Random("limits of mending")
        for machine in [LONG, WIDE_HEAVY, plain.WIDE] + list(plain.some_machines(4, "wide", (5, 5), (10, 10))):
            row, other = [tuple(chance.randrange(5) for _ in range(many)) for many in (3, 10000)]
            for one, two in ((row, other), (other, row), (row[:1], row[1:2]), ((), row), (other, ())):
                found = mending_fault(machine, one, two)
                self.assertIs(may_become(machine, one, two), found is None)
                if found is not None:
                    self.assertTrue(is_fault(machine, one, two, found))

    def test_machines_in_turn(self):
        for _ in range(2):
            told = [mending_fault(machine, (1,), (0,)) for machine in (TOP, NEWEST, DOWN)]
            self.assertEqual(told, [(0, 1, ()), None, plain_fault(DOWN, (1,), (0,))])


if __name__ == "__main__":
    unittest.main()
