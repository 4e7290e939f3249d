import itertools
import random
import unittest

from lateslips.changes import is_blind
from lateslips.errors import Refused
from lateslips.machines import Machine
from lateslips.unmerged import is_merge_fault, merge_fault
from tests import plain
from tests.case import CARDS, Case, DOWN, FIRST, LONG, NEWEST, ONE, SUMS, TURN_AND_END

NO_STATES = plain.NO_NUMBERS + (3, 10 ** 20)
# State 0 leads nowhere but to itself; from 1 on the place is taken by the first one.
BESIDE = Machine(2, [(0, 0), (2, 3), (2, 2), (3, 3)])


def machines():
    return list(plain.some_machines(60, "unmerged", commands=(1, 3), states=(1, 4))) + [
        FIRST, NEWEST, SUMS, CARDS, DOWN, TURN_AND_END, ONE, BESIDE,
    ]


def reached(machine, state):
    return sorted({ends[state] for ends in plain.effects(machine)})


def has_fault(machine, state):
    """Whether some two states that rows reach meet by a row, but not with a command ahead of it."""
    pairs = list(itertools.combinations(reached(machine, state), 2))
    return any(
        done[s] == done[t] and done[entry_s] != done[entry_t]
        for done in plain.effects(machine) for s, t in pairs for entry_s, entry_t in zip(machine.steps[s], machine.steps[t])
    )


def is_fault(machine, state, value):
    if type(value) is not tuple or len(value) != 4:
        return False
    d, e, x, w = value
    if not all(plain.is_row(machine, row) for row in (d, e, w)) or not plain.is_below(x, machine.commands):
        return False
    shown = [plain.lead(machine.steps, state, row + w) for row in (d, e)]
    wanted = [plain.lead(machine.steps, state, row + (x,) + w) for row in (d, e)]
    return shown[0] == shown[1] and wanted[0] != wanted[1]


class MergeFaultTest(Case):
    def test_against_plain_reckoning(self):
        for machine in machines():
            for state in range(machine.states):
                found = merge_fault(machine, state)
                self.assertEqual(found is not None, has_fault(machine, state))
                if found is not None:
                    self.assertTrue(is_fault(machine, state, found))
                    self.assertIs(is_merge_fault(machine, state, found), True)
                self.assertEqual(merge_fault(machine=machine, state=state), found)

    def test_states_that_rows_reach_alone(self):
        for machine in machines():
            for state in range(machine.states):
                states = reached(machine, state)
                alone = Machine(machine.commands, [[states.index(s) for s in machine.steps[t]] for t in states])
                self.assertEqual(merge_fault(machine, state) is None, not is_blind(alone))

    def test_blind_machines_that_are_not_so_from_one_state(self):
        for machine, state in ((BESIDE, 0), (BESIDE, 2), (FIRST, 1), (FIRST, 2)):
            self.assertTrue(is_blind(machine))
            self.assertIsNone(merge_fault(machine, state))
        self.assertIsNotNone(merge_fault(BESIDE, 1))
        self.assertIsNotNone(merge_fault(FIRST, 0))

    def test_states_that_are_none(self):
        for state in NO_STATES:
            self.fails(Refused, 0, merge_fault, FIRST, state)
            self.fails(Refused, 0, is_merge_fault, FIRST, state, None)
            self.fails(Refused, 0, is_merge_fault, FIRST, state, ((), (0,), 1, (0,)))

    def test_at_the_limits(self):
        chance = random.Random("unmerged")
        self.assertIsNone(merge_fault(LONG, 5))
        for _ in range(5):
            machine = Machine(5, [[chance.randrange(10) for _ in range(5)] for _ in range(10)])
            for state in range(10):
                found = merge_fault(machine, state)
                self.assertTrue(found is None or is_fault(machine, state, found))

    def test_machines_in_turn(self):
        for _ in range(2):
            told = [merge_fault(machine, 0) is None for machine in (FIRST, NEWEST, BESIDE)]
            self.assertEqual(told, [False, True, True])


class IsMergeFaultTest(Case):
    def test_all_small_values(self):
        for machine in (FIRST, BESIDE, NEWEST, Machine(2, [(1, 1), (0, 0)])):
            rows = list(plain.rows(2, 2))
            for state in range(machine.states):
                for d, e, w in itertools.product(rows, repeat=3):
                    for x in (0, 1):
                        wanted = is_fault(machine, state, (d, e, x, w))
                        self.assertIs(is_merge_fault(machine, state, (d, e, x, w)), wanted)

    def test_values_with_one_place_changed(self):
        for machine in machines():
            for state in range(machine.states):
                found = merge_fault(machine, state)
                for value in plain.changed(found) if found is not None else ():
                    self.assertIs(is_merge_fault(machine, state, value), is_fault(machine, state, value))

    def test_what_is_none(self):
        for value in (None, 0, (), "dexw", [(), (0,), 1, (0,)], ((), (0,), 1), ((), (0,), True, (0,)), ((), (1,), 0, [0])):
            self.assertIs(is_merge_fault(FIRST, 0, value), False)
        found = merge_fault(FIRST, 0)
        self.assertIs(is_merge_fault(machine=FIRST, state=0, value=found), True)
        self.assertIs(is_merge_fault(FIRST, 0, (found[1], found[0]) + found[2:]), True)

    def test_long_rows(self):
        d, e, x, w = merge_fault(FIRST, 0)
        self.assertIs(is_merge_fault(FIRST, 0, (d, e, x, w + (0, 1) * 4999)), True)
        self.assertIs(is_merge_fault(SUMS, 0, ((0,) * 9999, (0,) * 10000, 0, (0,) * 10000)), False)


if __name__ == "__main__":
    unittest.main()
