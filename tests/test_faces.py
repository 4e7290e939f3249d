import itertools
import random
import unittest

from lateslips.errors import InvalidQuestion, Refused
from lateslips.faces import closed_face, common_face, face_machine, is_face
from lateslips.machines import Machine
from tests import plain
from tests.case import CARDS, CARDS_AND_STOCKS, Case, DOWN, FIRST, LONG, NEWEST, ONE, SUMS, TURN_AND_END, WIDE_HEAVY

# Values that are no faces of FIRST, lists and what Python holds equal among them.
NO_FACES = (
    None, 0, "011", (), (0, 1), (0, 1, 1, 1), [0, 1, 1], (0, 1, 3), (0, 2, 2), (1, 1, 1), (0, 1, -1), (False, 1, 1),
    (0, True, True), (0, 1, 1.0), (0, 1, None), ((0,), 1, 1), (0, 1, "1"), {0: 0}, {0, 1},
)
NO_PAIRS = (
    None, 0, "01", (), (0,), (0, 1, 1), [0, 1], (0, 3), (-1, 0), (True, 0), (0, False), (0.0, 1), (0, None), ((0,), 1),
)


def machines():
    some = list(plain.some_machines(30, "faces", commands=(1, 3), states=(1, 4)))
    return some + plain.some_sighted(20, "faces", states=(2, 5)) + [
        FIRST, NEWEST, SUMS, CARDS, DOWN, TURN_AND_END, ONE,
    ]


def finest(machine, pairs):
    """The face that lies within all those in which the states of each pair are in one class."""
    found = [face for face in plain.faces(machine) if all(face[s] == face[t] for s, t in pairs)]
    return [face for face in found if all(plain.within(face, other) for other in found)][0]


class IsFaceTest(Case):
    def test_all_tuples(self):
        for machine in machines():
            wanted = plain.faces(machine)
            for value in itertools.product(range(machine.states), repeat=machine.states):
                self.assertIs(is_face(machine, value), value in wanted)

    def test_values_with_one_entry_changed(self):
        for machine in machines():
            for face in plain.faces(machine):
                for value in plain.changed(face):
                    self.assertIs(is_face(machine, value), plain.is_face(machine, value))

    def test_what_is_none(self):
        for value in NO_FACES:
            self.assertIs(is_face(FIRST, value), False)
        self.assertIs(is_face(machine=FIRST, value=(0, 1, 1)), True)

    def test_classes_that_a_command_leads_apart(self):
        self.assertIs(is_face(FIRST, (0, 0, 2)), False)
        self.assertIs(is_face(FIRST, (0, 1, 0)), False)
        self.assertIs(is_face(SUMS, (0, 0, 2)), False)
        self.assertIs(is_face(DOWN, (0, 1, 1)), False)
        self.assertIs(is_face(DOWN, (0, 0, 2)), True)


class FaceMachineTest(Case):
    def test_as_shown(self):
        self.assertEqual(face_machine(FIRST, (0, 1, 1)).steps, ((1, 1), (1, 1)))

    def test_all_faces(self):
        for machine in machines():
            for face in plain.faces(machine):
                found = face_machine(machine=machine, face=face)
                self.assertEqual(found, plain.classes_machine(machine, face))
                self.assertEqual((found.commands, found.states), (machine.commands, len(set(face))))

    def test_the_finest_and_the_widest(self):
        for machine in machines():
            self.assertEqual(face_machine(machine, tuple(range(machine.states))), machine)
            self.assertEqual(face_machine(machine, (0,) * machine.states).steps, ((0,) * machine.commands,))

    def test_what_is_no_face(self):
        for value in NO_FACES:
            self.fails(Refused, 0, face_machine, FIRST, value)


class ClosedFaceTest(Case):
    def test_as_shown(self):
        self.assertEqual(closed_face(FIRST, [(0, 1)]), (0, 0, 0))

    def test_all_pairs(self):
        for machine in machines():
            pairs = list(itertools.product(range(machine.states), repeat=2))
            for some in itertools.chain([()], itertools.product(pairs), itertools.combinations(pairs, 2)):
                wanted = finest(machine, some)
                self.assertEqual(closed_face(machine, list(some)), wanted)
                self.assertEqual(closed_face(machine=machine, pairs=some[::-1] + some), wanted)

    def test_named_ones(self):
        self.assertEqual(closed_face(SUMS, ()), (0, 1, 2))
        self.assertEqual(closed_face(SUMS, [(2, 2), (0, 0)]), (0, 1, 2))
        self.assertEqual(closed_face(SUMS, [(2, 1)]), (0, 0, 0))
        self.assertEqual(closed_face(DOWN, [(1, 0)]), (0, 0, 2))
        self.assertEqual(closed_face(TURN_AND_END, ((1, 0),)), (0, 0, 0, 3))
        self.assertEqual(closed_face(ONE, ((0, 0),)), (0,))

    def test_what_is_no_sequence(self):
        for value in (None, 0, "", "01", {}, {(0, 1)}, iter([(0, 1)]), (0, 1)):
            at = 0
            self.fails(InvalidQuestion, at, closed_face, FIRST, value)

    def test_the_first_entry_that_is_no_pair(self):
        for value in NO_PAIRS:
            self.fails(InvalidQuestion, 0, closed_face, FIRST, [value])
            self.fails(InvalidQuestion, 2, closed_face, FIRST, ((0, 1), (1, 1), value, (0, 1), None))

    def test_pairs_stay_as_they_are(self):
        pairs = [(1, 2), (0, 0)]
        found = closed_face(FIRST, pairs)
        self.assertEqual(pairs, [(1, 2), (0, 0)])
        pairs.append((0, 1))
        self.assertEqual(found, (0, 1, 1))

    def test_at_the_limits(self):
        chance = random.Random("faces")
        for machine in (LONG, WIDE_HEAVY, CARDS_AND_STOCKS, plain.WIDE):
            for _ in range(10):
                pairs = [(chance.randrange(10), chance.randrange(10)) for _ in range(2)]
                found = closed_face(machine, pairs)
                self.assertTrue(plain.is_face(machine, found))
                self.assertEqual([found[s] == found[t] for s, t in pairs], [True, True])
                # Of the faces with these pairs it is the finest one: each of its joins is asked for.
                joined = set(pairs) | {(s, s) for s in range(10)}
                wider = None
                while wider != joined:
                    wider = joined
                    joined = wider | {(t, s) for s, t in wider} | {
                        pair for s, t in wider for pair in zip(machine.steps[s], machine.steps[t])
                    }
                    joined = joined | {(s, u) for s, t in joined for v, u in joined if t == v}
                self.assertEqual(found, tuple(min(t for t in range(10) if (s, t) in joined) for s in range(10)))
        every = list(itertools.product(range(10), repeat=2))
        self.assertEqual(closed_face(LONG, every), (0,) * 10)


class CommonFaceTest(Case):
    def test_all_faces(self):
        for machine in machines():
            for one, other in itertools.product(plain.faces(machine), repeat=2):
                wanted = plain.division(list(zip(one, other)))
                self.assertEqual(common_face(machine, one, other), wanted)
                self.assertIs(is_face(machine, common_face(machine=machine, one=one, other=other)), True)

    def test_which_error_goes_first(self):
        for value in NO_FACES:
            self.fails(Refused, 0, common_face, FIRST, value, None)
            self.fails(Refused, 1, common_face, FIRST, (0, 1, 1), value)

    def test_machines_in_turn(self):
        for _ in range(2):
            self.assertEqual(common_face(DOWN, (0, 0, 2), (0, 1, 2)), (0, 1, 2))
            self.assertEqual(common_face(TURN_AND_END, (0, 0, 0, 3), (0, 0, 0, 0)), (0, 0, 0, 3))
            self.assertEqual(common_face(FIRST, (0, 1, 1), (0, 1, 1)), (0, 1, 1))


if __name__ == "__main__":
    unittest.main()
