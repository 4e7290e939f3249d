import unittest

from lateslips.errors import InvalidMachine, InvalidRow, Refused
from lateslips.machines import Machine, beside, checked_row, effect, effect_of_power, end_state
from tests import plain

NEWEST = Machine(2, [(0, 1), (0, 1)])
TURN = Machine(2, [(1, 0), (2, 0), (0, 2)])


class MachineTest(unittest.TestCase):
    def wrong(self, at, commands, steps):
        with self.assertRaises(InvalidMachine) as caught:
            Machine(commands, steps)
        self.assertEqual(caught.exception.at, at, (commands, steps))

    def test_attributes(self):
        machine = Machine(2, [[0, 1], (2, 1), [0, 0]])
        self.assertEqual((machine.commands, machine.states), (2, 3))
        self.assertEqual(machine.steps, ((0, 1), (2, 1), (0, 0)))
        self.assertIs(type(machine.steps), tuple)
        self.assertTrue(all(type(entry) is tuple for entry in machine.steps))

    def test_by_names(self):
        self.assertEqual(Machine(steps=[[0]], commands=1).steps, ((0,),))

    def test_commands_that_are_none(self):
        for commands in plain.NO_NUMBERS + (0,):
            self.wrong(0, commands, [(0,)])
            self.wrong(0, commands, None)

    def test_steps_that_are_none(self):
        for steps in (None, 0, "0", {0: (0,)}, iter([(0,)]), [], (), set()):
            self.wrong(1, 1, steps)

    def test_the_first_wrong_entry_is_told(self):
        self.wrong(2, 2, [(0,), (0, 1)])
        self.wrong(3, 2, [(0, 1), (0, 1, 0), (0,)])
        self.wrong(3, 2, [(0, 1), "01"])
        self.wrong(4, 1, [(0,), (2,), (3,)])
        self.wrong(2, 1, [0])
        self.wrong(2, 1, [()])

    def test_true_and_false_are_no_states(self):
        self.wrong(3, 1, [(0,), (True,)])
        self.wrong(2, 1, [[False], [0]])
        for state in plain.NO_NUMBERS + (2,):
            self.wrong(3, 2, [(0, 1), (0, state)])

    def test_equality(self):
        self.assertEqual(Machine(1, [[0]]), Machine(1, ((0,),)))
        self.assertNotEqual(Machine(1, [[0], [0]]), Machine(1, [[0], [1]]))
        self.assertNotEqual(Machine(1, [[0]]), Machine(2, [[0, 0]]))
        for other in (None, 1, ((0,),), "machine 1 1\n0"):
            self.assertNotEqual(Machine(1, [[0]]), other)

    def test_later_changes_of_the_argument_do_not_show(self):
        steps = [[0, 1], [0, 1]]
        machine = Machine(2, steps)
        steps[0][0] = 1
        steps.append([0, 0])
        self.assertEqual(machine, NEWEST)


class RowTest(unittest.TestCase):
    def wrong(self, at, value):
        for call in (checked_row, effect, lambda machine, row: end_state(machine, 0, row),
                     lambda machine, row: effect_of_power(machine, row, 2)):
            with self.assertRaises(InvalidRow) as caught:
                call(TURN, value)
            self.assertEqual(caught.exception.at, at, value)

    def test_rows(self):
        self.assertEqual(checked_row(TURN, [0, 1]), (0, 1))
        self.assertEqual(checked_row(TURN, ()), ())
        self.assertEqual(checked_row(machine=TURN, value=[]), ())
        self.assertIs(type(checked_row(TURN, [1])), tuple)

    def test_no_rows(self):
        for value in (None, 0, "01", {0: 1}, iter([0]), range(1)):
            self.wrong(0, value)
        for entry in plain.NO_NUMBERS + (2,):
            self.wrong(0, [entry])
            self.wrong(2, (0, 1, entry, None))

    def test_a_row_changed_later(self):
        row = [0, 1]
        kept = checked_row(TURN, row)
        row.append(0)
        self.assertEqual(kept, (0, 1))

    def test_end_state(self):
        self.assertEqual(end_state(TURN, 0, ()), 0)
        self.assertEqual(end_state(TURN, 0, [0, 0, 1]), 2)
        self.assertEqual(end_state(machine=TURN, state=1, row=(1,)), 0)

    def test_no_state_goes_first(self):
        for state in plain.NO_NUMBERS + (3,):
            with self.assertRaises(Refused) as caught:
                end_state(TURN, state, None)
            self.assertEqual(caught.exception.at, 0)


class EffectTest(unittest.TestCase):
    def test_against_plain_reckoning(self):
        for machine in plain.some_machines(40, "effects"):
            for row in plain.rows(machine.commands, 4):
                wanted = plain.ends(machine, row)
                self.assertEqual(effect(machine, row), wanted)
                self.assertEqual([end_state(machine, s, list(row)) for s in range(machine.states)], list(wanted))

    def test_machines_in_turn(self):
        for _ in range(2):
            self.assertEqual(effect(NEWEST, (0, 1)), (1, 1))
            self.assertEqual(effect(TURN, (0, 1)), (0, 2, 0))

    def test_powers(self):
        for machine in plain.some_machines(30, "powers"):
            for row in plain.rows(machine.commands, 3):
                for times in range(7):
                    self.assertEqual(effect_of_power(machine, row, times), plain.ends(machine, row * times))

    def test_great_powers(self):
        seven = Machine(1, [((state + 1) % 7,) for state in range(7)])
        by = 10 ** 18 % 7
        self.assertEqual(effect_of_power(seven, [0], 10 ** 18), tuple((state + by) % 7 for state in range(7)))
        self.assertEqual(effect_of_power(seven, (), 10 ** 18), tuple(range(7)))
        self.assertEqual(effect_of_power(machine=seven, row=(0,), times=0), tuple(range(7)))

    def test_long_rows(self):
        ten = Machine(1, [((state + 3) % 10,) for state in range(10)])
        self.assertEqual(effect(ten, (0,) * 10000), tuple(range(10)))


class BesideTest(unittest.TestCase):
    def test_pairs_of_states(self):
        both = beside(NEWEST, TURN)
        self.assertEqual((both.commands, both.states), (2, 6))
        for s in range(2):
            for t in range(3):
                for command in range(2):
                    wanted = NEWEST.steps[s][command] * 3 + TURN.steps[t][command]
                    self.assertEqual(both.steps[s * 3 + t][command], wanted)

    def test_unlike_numbers_of_commands(self):
        with self.assertRaises(Refused) as caught:
            beside(one=NEWEST, other=Machine(1, [(0,)]))
        self.assertEqual(caught.exception.at, 0)

    def test_what_it_returns_can_be_passed(self):
        again = beside(beside(NEWEST, NEWEST), TURN)
        self.assertEqual(again.states, 12)
        self.assertEqual(effect(again, (1,))[0], 3 * 3)


if __name__ == "__main__":
    unittest.main()
