import itertools
import random
import unittest

from lateslips.errors import Blind, InvalidRow
from lateslips.few import (
    fewest_classes, greatest_kernel, is_enough, is_part, kept_commands, kept_of_power, settled,
)
from lateslips.machines import Machine
from tests import plain

DOWN = Machine(2, [(0, 0), (0, 1), (1, 2)])
FIRST = Machine(2, [(1, 2), (1, 1), (2, 2)])
TURN = Machine(1, [(1,), (2,), (0,)])


def kept(machine, row):
    """The kept indexes, as told."""
    return tuple(
        index for index in range(len(row)) if plain.kernel(machine, row[index:]) != plain.kernel(machine, row[index + 1:])
    )


class PartTest(unittest.TestCase):
    def test_all_short_rows(self):
        for other in plain.rows(2, 5):
            all_parts = set(plain.parts(other))
            for one in plain.rows(2, 4):
                self.assertIs(is_part(one, other), one in all_parts)

    def test_lists_and_names(self):
        self.assertIs(is_part(one=[0, 1], other=(0, 2, 1)), True)
        self.assertIs(is_part((1, 0), [0, 2, 1]), False)
        self.assertIs(is_part([], []), True)
        self.assertIs(is_part([0], []), False)

    def test_not_blind_exactly_if_rows_do_what_parts_do(self):
        for machine in plain.some_machines(25, "parts", commands=(2, 2), states=(2, 3)):
            holds = all(
                plain.within(plain.kernel(machine, part), plain.kernel(machine, row))
                for row in plain.rows(2, 4) for part in plain.parts(row)
            )
            self.assertEqual(plain.is_blind(machine), not holds)


class RefusedTest(unittest.TestCase):
    def test_blind_goes_first(self):
        for call, arguments in (
            (kept_commands, (None,)), (kept_of_power, (None, 2)), (is_enough, (None, None)), (greatest_kernel, ()),
            (fewest_classes, ()), (settled, ()), (kept_commands, ((0,),)), (is_enough, ((0,), (0,))),
        ):
            with self.assertRaises(Blind) as caught:
                call(FIRST, *arguments)
            self.assertEqual(caught.exception.at, 0)

    def test_rows(self):
        for row, at in ((None, 0), ("0", 0), ([0, True], 1), ((1, 0, 2), 2), ([False], 0), ([0, -1], 1)):
            for call, rest in ((kept_commands, ()), (kept_of_power, (0,)), (is_enough, (None,))):
                with self.assertRaises(InvalidRow) as caught:
                    call(DOWN, row, *rest)
                self.assertEqual(caught.exception.at, at)


class KeptTest(unittest.TestCase):
    def test_as_shown(self):
        self.assertEqual(kept_commands(DOWN, (0, 1, 0, 0)), (2, 3))
        self.assertEqual(kept_of_power(DOWN, (0, 1), 1000), (1996, 1998))

    def test_against_plain_reckoning(self):
        for machine in plain.deep_sighted(40, "kept"):
            for row in plain.rows(machine.commands, 4):
                self.assertEqual(kept_commands(machine=machine, row=list(row)), kept(machine, row))

    def test_powers(self):
        for machine in plain.deep_sighted(30, "kept of powers"):
            for row in plain.rows(machine.commands, 3):
                for times in (0, 1, 2, 3, 7):
                    self.assertEqual(kept_of_power(machine, row, times), kept(machine, row * times))

    def test_great_powers(self):
        for machine in plain.deep_sighted(30, "great powers"):
            for row in plain.rows(machine.commands, 3):
                few = kept(machine, row * 6)
                wanted = tuple((10 ** 18 - 6) * len(row) + index for index in few)
                self.assertEqual(kept_of_power(machine=machine, row=list(row), times=10 ** 18), wanted)

    def test_few_are_kept_and_enough(self):
        for machine in plain.deep_sighted(40, "kept are enough"):
            for row in plain.rows(machine.commands, 4):
                indexes = kept_commands(machine, row)
                self.assertLessEqual(len(indexes), plain.most_kept(machine))
                self.assertIs(is_enough(machine, row, indexes), True)

    def test_one_to_one(self):
        self.assertEqual(kept_commands(TURN, (0, 0, 0)), ())
        self.assertEqual(kept_of_power(TURN, (0, 0, 0), 10 ** 18), ())

    def test_long_rows(self):
        chance = random.Random("long")
        row = [chance.randrange(5) for _ in range(10000)]
        indexes = kept_commands(plain.WIDE, row)
        self.assertTrue(is_enough(plain.WIDE, row, indexes))
        self.assertEqual(kept_of_power(plain.WIDE, row, 1), indexes)
        self.assertEqual(kept_of_power(plain.WIDE, row, 10 ** 18), tuple((10 ** 18 - 1) * 10000 + at for at in indexes))


class EnoughTest(unittest.TestCase):
    def test_as_shown(self):
        self.assertIs(is_enough(DOWN, (0, 1, 0, 0), (0, 2)), True)

    def test_all_short_rows(self):
        for machine in plain.deep_sighted(12, "enough", commands=(2, 2), states=(2, 4)):
            for row in plain.rows(2, 4):
                for value in plain.parts(range(len(row))):
                    wanted = len(value) <= plain.most_kept(machine) and plain.kernel(machine, row) == plain.kernel(
                        machine, [row[index] for index in value])
                    self.assertEqual(is_enough(machine, list(row), value), wanted)

    def test_values_that_are_none(self):
        row = (0, 0, 1, 0)
        self.assertIs(is_enough(machine=DOWN, row=row, value=(0, 1)), True)
        for value in (None, 0, [0, 1], (1, 0), (0, 0), (0, True), (False, 1), (0, 4), (-4, 1), (0, 1, 3), (0, 1, 2),
                      (0,), (0, 2), (0, None), "01", (0.0, 1)):
            self.assertIs(is_enough(DOWN, row, value), False, value)
        self.assertIs(is_enough(DOWN, (), ()), True)
        self.assertIs(is_enough(TURN, (0, 0), (0,)), False)
        self.assertIs(is_enough(TURN, (0, 0), ()), True)

    def test_same_parts_same_kernel(self):
        for machine in plain.deep_sighted(10, "same parts", commands=(2, 2), states=(2, 4)):
            most = plain.most_kept(machine)
            found = {}
            for row in plain.rows(2, 6):
                parts = frozenset(part for part in plain.parts(row) if len(part) <= most)
                self.assertEqual(found.setdefault(parts, plain.kernel(machine, row)), plain.kernel(machine, row))


class GreatestKernelTest(unittest.TestCase):
    def machines(self):
        return plain.deep_sighted(60, "greatest") + plain.some_sighted(40, "greatest") + plain.all_sighted(2, 2)

    def test_against_plain_reckoning(self):
        for machine in self.machines():
            self.assertEqual(greatest_kernel(machine=machine), plain.greatest(machine))
            self.assertIn(greatest_kernel(machine), plain.kernels(machine))
            self.assertEqual(fewest_classes(machine=machine), len(set(plain.greatest(machine))))

    def test_one_to_one(self):
        self.assertEqual((greatest_kernel(TURN), fewest_classes(TURN)), ((0, 1, 2), 3))

    def test_down(self):
        self.assertEqual((greatest_kernel(DOWN), fewest_classes(DOWN)), ((0, 0, 0), 1))

    def test_settled(self):
        self.assertEqual(settled(DOWN).steps, ((0, 0),))
        for machine in self.machines():
            classes = sorted(set(plain.greatest(machine)))
            found = settled(machine=machine)
            self.assertEqual((found.commands, found.states), (machine.commands, len(classes)))
            for state, command in itertools.product(range(machine.states), range(machine.commands)):
                here = classes.index(plain.greatest(machine)[state])
                there = classes.index(plain.greatest(machine)[machine.steps[state][command]])
                self.assertEqual(found.steps[here][command], there)

    def test_settled_commands_are_one_to_one(self):
        for machine in self.machines():
            self.assertEqual(plain.kernels(settled(machine)), (tuple(range(fewest_classes(machine))),))

    def test_machines_in_turn(self):
        for _ in range(2):
            self.assertEqual([fewest_classes(machine) for machine in (DOWN, TURN, plain.WIDE)], [1, 3, 1])


if __name__ == "__main__":
    unittest.main()
