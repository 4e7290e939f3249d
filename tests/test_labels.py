import itertools
import random
import unittest

from lateslips.changes import is_blind
from lateslips.errors import Refused
from lateslips.faces import face_machine, is_face
from lateslips.labels import Labels, can_show, is_label_fault, label_fault
from lateslips.machines import Machine
from lateslips.wishes import WISHES, fulfils
from tests import plain
from tests.case import (
    CARDS, CARDS_AND_STOCKS, Case, DOWN, FIRST, LONG, NEWEST, ONE, SUMS, TURN_AND_END, WIDE_HEAVY,
)
from tests.test_wishes import NO_WISHES

# Values that are no numbers for the three states of FIRST.
NO_LABELS = (
    None, 0, "012", "", (), [], (0, 1), [0, 1], (0, 1, 2, 3), [0, 0, 0, 0], (0, 1, True), [False, 1, 2], (0, -1, 2),
    (0, 1.0, 2), (0, "1", 2), (0, None, 2), (0, (1,), 2), ([0], 1, 2), {0: 0, 1: 1, 2: 2}, {0, 1, 2}, range(3),
)
NO_STATES = plain.NO_NUMBERS + (3, 10 ** 20)


def machines():
    some = list(plain.some_machines(30, "labels", commands=(1, 3), states=(1, 4)))
    return some + plain.some_sighted(15, "labels", states=(2, 4)) + [
        FIRST, NEWEST, SUMS, CARDS, DOWN, TURN_AND_END, ONE,
    ]


def all_labels(machine):
    """The numbers for the states, one of each kind that makes a difference, and some wide ones."""
    return plain.all_divisions(machine.states) + [(10 ** 30,) * machine.states]


def is_fault(machine, numbers, value):
    if type(value) is not tuple or len(value) != 4:
        return False
    s, t, x, w = value
    if not plain.is_below(s, machine.states) or not plain.is_below(t, machine.states):
        return False
    if not plain.is_below(x, machine.commands) or not plain.is_row(machine, w):
        return False
    shown = [numbers[plain.lead(machine.steps, state, w)] for state in (s, t)]
    wanted = [numbers[plain.lead(machine.steps, state, (x,) + w)] for state in (s, t)]
    return shown[0] == shown[1] and wanted[0] != wanted[1]


def has_fault(machine, numbers):
    return any(
        is_fault(machine, numbers, (s, t, x, w)) for w in plain.effects(machine).values()
        for s, t in itertools.combinations(range(machine.states), 2) for x in range(machine.commands)
    )


class ClassTest(Case):
    def test_attributes(self):
        numbers = [3, 0, 3]
        labels = Labels(FIRST, numbers)
        self.assertEqual((labels.machine, labels.numbers), (FIRST, (3, 0, 3)))
        self.assertIs(type(labels.numbers), tuple)
        numbers[0] = 7
        numbers.append(1)
        self.assertEqual((labels.numbers, labels(0)), ((3, 0, 3), 3))
        self.assertEqual(Labels(machine=FIRST, numbers=(1, 2, 10 ** 30)).numbers, (1, 2, 10 ** 30))

    def test_numbers_that_are_none(self):
        for value in NO_LABELS:
            self.fails(Refused, 0, Labels, FIRST, value)
        self.fails(Refused, 0, Labels, ONE, (0, 0))
        self.fails(Refused, 0, Labels, ONE, [True])

    def test_called_with_a_state(self):
        labels = Labels(FIRST, [5, 0, 7])
        self.assertEqual([labels(state) for state in range(3)], [5, 0, 7])
        self.assertEqual(labels(state=2), 7)
        self.assertEqual(Labels(ONE, (4,))(0), 4)

    def test_called_with_what_is_no_state(self):
        labels = Labels(FIRST, (5, 0, 7))
        for value in NO_STATES:
            self.fails(Refused, 0, labels, value)

    def test_equal(self):
        labels = Labels(FIRST, [0, 1, 1])
        self.assertTrue(labels == Labels(Machine(2, [[1, 2], [1, 1], [2, 2]]), (0, 1, 1)))
        self.assertFalse(labels != Labels(FIRST, (0, 1, 1)))
        for other in (Labels(FIRST, (0, 1, 2)), Labels(FIRST, (0, 2, 2)), Labels(DOWN, (0, 1, 1))):
            self.assertFalse(labels == other)
            self.assertTrue(labels != other)

    def test_equal_to_no_value_of_another_kind(self):
        labels = Labels(FIRST, (0, 1, 1))
        for other in (FIRST, (0, 1, 1), (FIRST, (0, 1, 1)), [0, 1, 1], None, 0, "labels", Labels, labels.numbers):
            self.assertFalse(labels == other)
            self.assertFalse(other == labels)
            self.assertTrue(labels != other)


class LabelFaultTest(Case):
    def test_as_shown(self):
        self.assertIsNone(label_fault(Labels(FIRST, [0, 1, 1])))

    def test_all_labels(self):
        told = set()
        for machine in machines():
            for numbers in all_labels(machine):
                labels = Labels(machine, numbers)
                found = label_fault(labels)
                self.assertEqual(found is not None, has_fault(machine, numbers))
                self.assertEqual(label_fault(labels=labels), found)
                if found is not None:
                    self.assertTrue(is_fault(machine, numbers, found))
                    self.assertIs(is_label_fault(labels, found), True)
                told.add((found is None, len(set(numbers)) < machine.states))
        self.assertEqual(len(told), 4)

    def test_faces_of_machines_that_are_not_blind(self):
        for machine in machines():
            for numbers in all_labels(machine):
                classes = plain.division(numbers)
                wanted = is_face(machine, classes) and not is_blind(face_machine(machine, classes))
                self.assertEqual(label_fault(Labels(machine, numbers)) is None, wanted)

    def test_what_shows_tells_what_should_show(self):
        # Two beginnings that show the same behind a row must do so with each late command, too.
        for machine in machines()[::3]:
            for numbers in all_labels(machine):
                told = set()
                for row in plain.rows(machine.commands, 3):
                    for place, x in itertools.product(range(len(row) + 1), range(machine.commands)):
                        seen = {}
                        for state in range(machine.states):
                            ends = [plain.lead(machine.steps, state, row[:place] + more + row[place:]) for more in ((), (x,))]
                            seen.setdefault(numbers[ends[0]], set()).add(numbers[ends[1]])
                        told.update(len(found) for found in seen.values())
                if label_fault(Labels(machine, numbers)) is None:
                    self.assertEqual(told, {1})

    def test_one_label_and_a_label_for_each(self):
        for machine in machines():
            self.assertIsNone(label_fault(Labels(machine, [4] * machine.states)))
            found = label_fault(Labels(machine, list(range(5, 5 + machine.states))))
            self.assertEqual(found is None, not is_blind(machine))

    def test_at_the_limits(self):
        chance = random.Random("labels")
        for machine in [LONG, WIDE_HEAVY, CARDS_AND_STOCKS, plain.WIDE] + list(plain.some_machines(3, "wide", (5, 5), (10, 10))):
            for many in (1, 2, 5, 10):
                numbers = [chance.randrange(many) for _ in range(10)]
                found = label_fault(Labels(machine, numbers))
                if found is not None:
                    self.assertTrue(is_fault(machine, numbers, found))
                classes = plain.division(numbers)
                wanted = plain.is_face(machine, classes) and not is_blind(face_machine(machine, classes))
                self.assertEqual(found is None, wanted)

    def test_machines_in_turn(self):
        for _ in range(2):
            told = [label_fault(Labels(machine, (0, 1, 1))) is None for machine in (FIRST, SUMS, DOWN)]
            self.assertEqual(told, [True, False, False])


class IsLabelFaultTest(Case):
    def test_all_small_values(self):
        for machine in (FIRST, SUMS, DOWN, TURN_AND_END, Machine(2, [(0, 1), (1, 1)])):
            places = range(machine.states)
            for numbers in all_labels(machine):
                labels = Labels(machine, numbers)
                for value in itertools.product(places, places, range(machine.commands), plain.rows(machine.commands, 2)):
                    self.assertIs(is_label_fault(labels, value), is_fault(machine, numbers, value))

    def test_values_with_one_place_changed(self):
        for machine in machines():
            for numbers in all_labels(machine)[::2]:
                labels = Labels(machine, numbers)
                found = label_fault(labels)
                for value in plain.changed(found) if found is not None else (None, (), (0, 0, 0, ())):
                    self.assertIs(is_label_fault(labels, value), is_fault(machine, numbers, value))

    def test_what_is_none(self):
        labels = Labels(SUMS, (0, 0, 1))
        self.assertIs(is_label_fault(labels=labels, value=(0, 1, 0, ())), True)
        self.assertIs(is_label_fault(labels, (1, 0, 0, ())), True)
        for value in (
            None, 0, "", (), (0, 1, 0), (0, 1, 0, (), ()), [0, 1, 0, ()], (0, 1, 0, []), (False, 1, 0, ()),
            (0, True, 0, ()), (0, 1, False, ()), (0, 1, 0, (False,)), (0, 3, 0, ()), (3, 1, 0, ()), (0, 1, 1, ()),
            (0, 1, 0, (1,)), (0, 1, 0, None), (0, 1, (0,), ()), (-3, 1, 0, ()), (0.0, 1, 0, ()), (1, 1, 0, ()), {}, labels,
        ):
            self.assertIs(is_label_fault(labels, value), False)

    def test_long_rows(self):
        labels = Labels(SUMS, (0, 0, 1))
        self.assertIs(is_label_fault(labels, (0, 1, 0, (0,) * 9999)), True)
        self.assertIs(is_label_fault(labels, (0, 1, 0, (0,) * 10000)), is_fault(SUMS, (0, 0, 1), (0, 1, 0, (0,) * 10000)))


class CanShowTest(Case):
    def test_as_shown(self):
        self.assertIs(can_show(Labels(FIRST, [3, 3, 3]), "struck"), True)

    def test_all_labels(self):
        told = set()
        for machine in machines():
            for wish in WISHES:
                face = plain.finest_face(machine, wish)
                for numbers in all_labels(machine):
                    labels = Labels(machine, numbers)
                    wanted = plain.within(face, numbers)
                    self.assertIs(can_show(labels, wish), wanted)
                    self.assertIs(can_show(labels=labels, wish=wish), wanted)
                    told.add((wish, wanted))
        self.assertEqual(len(told), 12)

    def test_late_is_meant_where_none_is_told(self):
        for machine in machines():
            for numbers in all_labels(machine):
                labels = Labels(machine, numbers)
                self.assertIs(can_show(labels), can_show(labels, "late"))

    def test_some_face_that_tells_the_labels(self):
        for machine in machines()[::2]:
            for wish in WISHES:
                found = [face for face in plain.faces(machine) if fulfils(face_machine(machine, face), wish)]
                for numbers in all_labels(machine):
                    wanted = any(plain.within(face, numbers) for face in found)
                    self.assertIs(can_show(Labels(machine, numbers), wish), wanted)

    def test_values_that_are_no_wishes(self):
        for value in NO_WISHES:
            self.fails(Refused, 0, can_show, Labels(FIRST, (0, 0, 0)), value)

    def test_at_the_limits(self):
        for machine in (LONG, WIDE_HEAVY, CARDS_AND_STOCKS, plain.WIDE):
            self.assertIs(can_show(Labels(machine, (1,) * 10), "struck"), True)
            self.assertIs(can_show(Labels(machine, list(range(10))), "late"), True)
            self.assertIs(can_show(Labels(machine, list(range(10))), "struck"), False)


if __name__ == "__main__":
    unittest.main()
