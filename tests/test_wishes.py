import itertools
import unittest

from lateslips.errors import Refused
from lateslips.faces import common_face, face_machine
from lateslips.machines import Machine
from lateslips.wishes import WISHES, finest_face, fulfils
from tests import plain
from tests.case import (
    CARDS, CARDS_AND_STOCKS, Case, DOWN, FIRST, LONG, NEWEST, ONE, SUMS, TURN_AND_END, WIDE_HEAVY,
)

TOP = Machine(2, [(0, 1), (1, 1)])
NO_WISHES = (
    None, 0, 1, True, False, "", "Late", "late ", " late", "heavy", "blind", ["late"], ("late",), WISHES, list(WISHES),
    {"late": 0}, {"late"}, b"late", TOP,
)


def machines():
    some = list(plain.some_machines(40, "wishes", commands=(1, 2), states=(1, 4)))
    some += list(plain.some_machines(10, "wishes", commands=(3, 3), states=(2, 4)))
    return some + plain.some_sighted(20, "wishes", commands=(2, 3), states=(2, 4)) + [
        TOP, FIRST, NEWEST, SUMS, CARDS, DOWN, TURN_AND_END, ONE,
    ]


class FulfilsTest(Case):
    def test_the_wishes(self):
        self.assertEqual(WISHES, ("late", "tray", "free", "swapped", "exchanged", "struck"))
        self.assertIs(type(WISHES), tuple)

    def test_against_plain_reckoning(self):
        told = set()
        for machine in machines():
            for wish in WISHES:
                wanted = plain.fulfils(machine, wish)
                self.assertIs(fulfils(machine, wish), wanted)
                self.assertIs(fulfils(machine=machine, wish=wish), wanted)
                told.add((wish, wanted))
            self.assertIs(fulfils(machine), plain.fulfils(machine, "late"))
        self.assertEqual(len(told), 12)

    def test_named_ones(self):
        named = (
            (FIRST, ()), (TOP, ("late", "tray", "free", "swapped")), (ONE, WISHES), (SUMS, WISHES),
            (NEWEST, ("late", "tray", "swapped", "exchanged")), (CARDS, ("late", "swapped", "exchanged", "struck")),
        )
        for machine, wanted in named:
            self.assertEqual(tuple(wish for wish in WISHES if fulfils(machine, wish)), wanted)

    def test_values_that_are_no_wishes(self):
        for value in NO_WISHES:
            for machine in (FIRST, NEWEST):
                self.fails(Refused, 0, fulfils, machine, value)
                self.fails(Refused, 0, finest_face, machine, value)
        self.fails(Refused, 0, fulfils, machine=NEWEST, wish=None)
        self.fails(Refused, 0, finest_face, machine=NEWEST, wish=None)


class FinestFaceTest(Case):
    def test_as_shown(self):
        self.assertEqual((finest_face(FIRST), fulfils(FIRST)), ((0, 1, 1), False))

    def test_all_faces(self):
        for machine in machines():
            for wish in WISHES:
                wanted = plain.finest_face(machine, wish)
                self.assertEqual(finest_face(machine, wish), wanted)
                self.assertEqual(finest_face(machine=machine, wish=wish), wanted)
            self.assertEqual(finest_face(machine), plain.finest_face(machine, "late"))

    def test_every_small_machine(self):
        for machine in plain.every_machine(2, 2):
            for wish in WISHES:
                self.assertEqual(finest_face(machine, wish), plain.finest_face(machine, wish))
        for machine in list(plain.every_machine(2, 3))[::9]:
            for wish in WISHES:
                self.assertEqual(finest_face(machine, wish), plain.finest_face(machine, wish))

    def test_fulfilled_wishes_need_no_classes(self):
        for machine in machines():
            for wish in WISHES:
                finest = finest_face(machine, wish) == tuple(range(machine.states))
                self.assertEqual(finest, fulfils(machine, wish))

    def test_common_faces_fulfil_what_both_do(self):
        for machine in machines()[::2]:
            for wish in WISHES:
                found = [face for face in plain.faces(machine) if fulfils(face_machine(machine, face), wish)]
                for one, other in itertools.combinations(found, 2):
                    self.assertIs(fulfils(face_machine(machine, common_face(machine, one, other)), wish), True)

    def test_which_lies_within_which(self):
        for machine in machines() + list(plain.some_machines(60, "order", commands=(1, 3), states=(2, 7))):
            late, tray, free, swapped, exchanged, struck = [finest_face(machine, wish) for wish in WISHES]
            links = (
                (late, tray), (late, swapped), (tray, free), (swapped, free), (swapped, exchanged), (exchanged, struck),
            )
            for one, other in links:
                self.assertTrue(plain.within(one, other))

    def test_tray_machines_by_powers(self):
        for machine in plain.some_sighted(150, "powers", commands=(1, 3), states=(1, 5)):
            many = machine.states
            turned = all(
                plain.ends(machine, (a, x) + (a,) * many) == plain.ends(machine, (x, a) + (a,) * many)
                for a in range(machine.commands) for x in range(machine.commands)
            )
            self.assertIs(fulfils(machine, "tray"), turned)

    def test_at_the_limits(self):
        wide = list(plain.some_machines(3, "wide", (5, 5), (10, 10)))
        for machine in [LONG, WIDE_HEAVY, CARDS_AND_STOCKS, plain.WIDE] + wide:
            for wish in WISHES:
                face = finest_face(machine, wish)
                self.assertTrue(plain.is_face(machine, face))
                self.assertIs(fulfils(face_machine(machine, face), wish), True)
        self.assertEqual(finest_face(CARDS_AND_STOCKS, "tray"), (0, 0, 0, 3, 4, 5, 6, 7, 8, 9))
        self.assertEqual(finest_face(CARDS_AND_STOCKS, "struck"), (0, 1, 2, 3, 3, 3, 3, 7, 7, 7))

    def test_machines_in_turn(self):
        for _ in range(2):
            told = [finest_face(machine, "struck") for machine in (FIRST, NEWEST, SUMS, TOP)]
            self.assertEqual(told, [(0, 0, 0), (0, 0), (0, 1, 2), (0, 0)])


if __name__ == "__main__":
    unittest.main()
