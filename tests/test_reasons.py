import itertools
import random
import unittest

from lateslips.errors import Refused
from lateslips.machines import Machine
from lateslips.reasons import is_reasons, reasons
from lateslips.wishes import WISHES, finest_face
from tests import plain
from tests.case import CARDS, CARDS_AND_STOCKS, Case, DOWN, FIRST, LONG, NEWEST, ONE, SUMS, TURN_AND_END, WIDE_HEAVY
from tests.test_wishes import NO_WISHES, TOP

NO_STATES = plain.NO_NUMBERS + (3, 10 ** 20)
STEP = (0, 1, (0,), (1, 0))


def machines():
    return list(plain.some_machines(30, "reasons", commands=(1, 2), states=(2, 4))) + [
        FIRST, NEWEST, SUMS, CARDS, DOWN, TURN_AND_END, TOP, ONE,
    ]


def closed(machine, pairs):
    """For each state the least one of its class, by all pairs that stand in one class."""
    states = range(machine.states)
    joined = {(s, s) for s in states} | set(pairs) | {(t, s) for s, t in pairs}
    while True:
        wider = joined | {pair for s, t in joined for pair in zip(machine.steps[s], machine.steps[t])}
        wider = wider | {(s, v) for s, t in wider for u, v in wider if t == u}
        if wider == joined:
            return tuple(min(t for t in states if (s, t) in joined) for s in states)
        joined = wider


def join(machine, wish, face, step):
    """The pair that a step joins, None if it is not due."""
    s, t, u, v = step
    ends = [plain.lead(machine.steps, state, row) for state in (s, t) for row in (u, v)]
    for a, b in itertools.product(range(machine.commands), repeat=2):
        for w in (u[:0], u, u[1:], u[2:]):
            begun = {
                "late": (w, (a,) + w), "tray": (w, (a,) + w), "swapped": ((a, b) + w, (b, a) + w),
                "exchanged": ((a,) + w, (b,) + w), "struck": ((a,) + w, w),
            }
            if begun.get(wish) == (u, v) and face[ends[0]] == face[ends[2]]:
                return (ends[1], ends[3])
        more = (a,) * machine.states
        turned = {"free": ((a, b), (b, a)), "tray": ((a, b) + more, (b, a) + more)}
        if s == t and turned.get(wish) == (u, v):
            return (ends[0], ends[1])
    return None


def are_reasons(machine, wish, one, other, value):
    if type(value) is not tuple:
        return False
    pairs = []
    for step in value:
        if type(step) is not tuple or len(step) != 4 or not all(plain.is_row(machine, row) for row in step[2:]):
            return False
        if not all(plain.is_below(state, machine.states) for state in step[:2]):
            return False
        pair = join(machine, wish, closed(machine, pairs), step)
        if pair is None:
            return False
        pairs.append(pair)
    face = closed(machine, pairs)
    return face[one] == face[other]


class ReasonsTest(Case):
    def test_as_shown(self):
        self.assertIs(is_reasons(FIRST, "late", 1, 2, (STEP,)), True)
        self.assertIs(is_reasons(machine=FIRST, wish="late", one=1, other=2, value=(STEP,)), True)
        self.assertIsNone(reasons(FIRST, "late", 0, 1))

    def test_all_states(self):
        for machine in machines():
            for wish in WISHES:
                face = plain.finest_face(machine, wish)
                for one, other in itertools.product(range(machine.states), repeat=2):
                    found = reasons(machine, wish, one, other)
                    self.assertEqual(found is not None, face[one] == face[other])
                    if found is not None:
                        self.assertTrue(are_reasons(machine, wish, one, other, found))
                        self.assertIs(is_reasons(machine, wish, one, other, found), True)
                    self.assertEqual(reasons(machine=machine, wish=wish, one=one, other=other), found)

    def test_many_steps(self):
        longest = 0
        for machine in plain.some_machines(40, "many reasons", commands=(2, 3), states=(5, 7)):
            for wish in WISHES:
                face = finest_face(machine, wish)
                for one, other in enumerate(face):
                    found = reasons(machine, wish, one, other)
                    self.assertTrue(are_reasons(machine, wish, one, other, found))
                    self.assertIs(is_reasons(machine, wish, one, other, found), True)
                    longest = max(longest, len(found))
        self.assertGreaterEqual(longest, 4)

    def test_which_error_goes_first(self):
        for wish in NO_WISHES:
            self.fails(Refused, 0, reasons, FIRST, wish, None, None)
            self.fails(Refused, 0, is_reasons, FIRST, wish, None, None, None)
        for state in NO_STATES:
            self.fails(Refused, 1, reasons, FIRST, "late", state, None)
            self.fails(Refused, 1, is_reasons, FIRST, "late", state, None, ())
            self.fails(Refused, 2, reasons, FIRST, "free", 2, state)
            self.fails(Refused, 2, is_reasons, FIRST, "free", 2, state, ())

    def test_at_the_limits(self):
        wide = list(plain.some_machines(2, "wide", (5, 5), (10, 10)))
        for machine in [LONG, WIDE_HEAVY, CARDS_AND_STOCKS] + wide:
            for wish in WISHES:
                face = finest_face(machine, wish)
                for one, other in ((0, 0), (1, 0), (3, 6), (9, 2)):
                    found = reasons(machine, wish, one, other)
                    self.assertEqual(found is not None, face[one] == face[other])
                    if found is not None:
                        self.assertIs(is_reasons(machine, wish, one, other, found), True)
                        self.assertTrue(are_reasons(machine, wish, one, other, found))

    def test_machines_in_turn(self):
        for _ in range(2):
            told = [reasons(machine, "struck", 0, 1) is None for machine in (SUMS, TOP, NEWEST, CARDS)]
            self.assertEqual(told, [True, False, False, True])


class IsReasonsTest(Case):
    def test_values_with_one_place_changed(self):
        for machine in machines():
            for wish in WISHES:
                face = finest_face(machine, wish)
                for one, other in ((machine.states - 1, 0), (0, face.index(face[-1])), (1 % machine.states, 0)):
                    found = reasons(machine, wish, one, other)
                    for value in list(plain.changed(found))[:200] if found else ():
                        wanted = are_reasons(machine, wish, one, other, value)
                        self.assertIs(is_reasons(machine, wish, one, other, value), wanted)

    def test_all_single_steps(self):
        for machine in (FIRST, TOP, Machine(2, [(1, 0), (0, 0)])):
            rows = list(plain.rows(2, 2)) + [(0, 1, 0), (1, 0, 0), (1, 1, 0)]
            rows += [(0, 1) + (0,) * machine.states, (1, 0) + (0,) * machine.states]
            places = range(machine.states)
            for wish in WISHES:
                for step in itertools.product(places, places, rows, rows):
                    for one, other in ((0, 1), (1, 1)):
                        wanted = are_reasons(machine, wish, one, other, (step,))
                        self.assertIs(is_reasons(machine, wish, one, other, (step,)), wanted)

    def test_reasons_for_other_wishes(self):
        for machine in machines():
            for wish, wanted in itertools.product(WISHES, repeat=2):
                found = reasons(machine, wish, machine.states - 1, 0)
                if found is not None:
                    told = are_reasons(machine, wanted, machine.states - 1, 0, found)
                    self.assertIs(is_reasons(machine, wanted, machine.states - 1, 0, found), told)

    def test_steps_in_another_order(self):
        turned = 0
        for machine in plain.some_machines(30, "order", commands=(2, 3), states=(4, 6)):
            for wish in WISHES:
                found = reasons(machine, wish, machine.states - 1, 0)
                if found is not None and len(found) > 1:
                    for value in (found[::-1], found[1:] + found[:1], found + found, found[:-1] + found[:1] + found[-1:]):
                        wanted = are_reasons(machine, wish, machine.states - 1, 0, value)
                        self.assertIs(is_reasons(machine, wish, machine.states - 1, 0, value), wanted)
                        turned += not wanted
        self.assertGreater(turned, 0)

    def test_none_for_equal_states(self):
        for machine in machines():
            for wish in WISHES:
                for state in range(machine.states):
                    self.assertIs(is_reasons(machine, wish, state, state, ()), True)
                    self.assertEqual(reasons(machine, wish, state, state), ())
                if machine.states > 1:
                    self.assertIs(is_reasons(machine, wish, 0, 1, ()), False)

    def test_steps_that_join_nothing_new(self):
        self.assertIs(is_reasons(FIRST, "late", 1, 2, (STEP, STEP)), True)
        self.assertIs(is_reasons(FIRST, "late", 1, 2, ((2, 2, (), (1,)), STEP)), True)
        self.assertIs(is_reasons(FIRST, "late", 1, 2, (STEP, (1, 2, (), (0,)))), True)
        self.assertIs(is_reasons(FIRST, "late", 1, 2, ((1, 2, (), (0,)), STEP)), False)
        self.assertIs(is_reasons(FIRST, "free", 1, 2, ((0, 0, (0, 0), (0, 0)), (0, 0, (0, 1), (1, 0)))), True)

    def test_each_form(self):
        n = FIRST.states
        turned = ((0, 1) + (0,) * n, (1, 0) + (0,) * n)
        self.assertIs(is_reasons(FIRST, "tray", 1, 2, ((0, 0) + turned,)), True)
        self.assertIs(is_reasons(FIRST, "tray", 1, 2, (STEP,)), True)
        self.assertIs(is_reasons(FIRST, "tray", 1, 2, ((0, 0, (0, 1), (1, 0)),)), False)
        self.assertIs(is_reasons(FIRST, "tray", 1, 2, ((0, 0, turned[0][:-1], turned[1][:-1]),)), False)
        self.assertIs(is_reasons(FIRST, "tray", 1, 2, ((0, 0, turned[0] + (0,), turned[1] + (0,)),)), False)
        self.assertIs(is_reasons(FIRST, "free", 1, 2, ((0, 0, (0, 1), (1, 0)),)), True)
        self.assertIs(is_reasons(FIRST, "free", 1, 2, ((0, 1, (0, 1), (1, 0)),)), False)
        self.assertIs(is_reasons(FIRST, "free", 1, 2, (STEP,)), False)
        # States that are the same are led to the same: such a step of the first form joins nothing.
        self.assertIs(is_reasons(FIRST, "swapped", 1, 2, ((0, 0, (0, 1), (1, 0)),)), False)
        self.assertIs(is_reasons(FIRST, "exchanged", 1, 2, ((0, 0, (0,), (1,)),)), False)
        self.assertIs(is_reasons(FIRST, "struck", 1, 0, ((0, 1, (0,), ()),)), True)
        self.assertIs(is_reasons(FIRST, "late", 1, 0, ((0, 1, (0,), ()),)), False)
        self.assertIs(is_reasons(FIRST, "struck", 1, 2, (STEP,)), False)

    def test_values_that_are_none(self):
        for value in (
            None, 0, "", [], [STEP], (list(STEP),), (STEP[:3],), (STEP + (0,),), STEP, ((0, 1, [0], (1, 0)),),
            ((0, 1, (0,), [1, 0]),), ((False, 1, (0,), (1, 0)),), ((0, True, (0,), (1, 0)),), ((0, 3, (0,), (1, 0)),),
            ((0, 1, (False,), (1, 0)),), ((0, 1, (0,), (True, 0)),), ((0, 1, (2,), (1, 2)),), ((0, 1, None, None),),
            (None,), (STEP, None), ((0, -1, (0,), (1, 0)),), ((0.0, 1, (0,), (1, 0)),), {}, {STEP}, {STEP: 0},
        ):
            self.assertIs(is_reasons(FIRST, "late", 1, 2, value), False)
            self.assertIs(is_reasons(FIRST, "late", 1, 1, value), False)

    def test_long_rows(self):
        row = (0, 1) * 4999
        self.assertIs(is_reasons(FIRST, "late", 1, 2, ((0, 1, row, (1,) + row),)), True)
        chance = random.Random("long reasons")
        steps = tuple((s, t, row, (chance.randrange(2),) + row) for s in range(3) for t in range(3))
        for wish in WISHES:
            self.assertIs(is_reasons(FIRST, wish, 1, 2, steps), are_reasons(FIRST, wish, 1, 2, steps))


if __name__ == "__main__":
    unittest.main()
