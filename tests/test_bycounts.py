import itertools
import random
import unittest

from lateslips.bycounts import is_order_fault, order_fault, table, tables
from lateslips.errors import InvalidRow, Refused
from lateslips.machines import Machine
from tests import plain
from tests.case import (
    CARDS, CARDS_AND_STOCKS, Case, DOWN, FIRST, LONG, NEWEST, NO_ROWS, ONE, SUMS, TURN_AND_END, WIDE_HEAVY,
)

SHOWN = Machine(2, [(1, 1), (0, 2), (2, 0)])
TURN = Machine(1, [(1,), (0,)])
JOINING = (NEWEST, DOWN, FIRST, TURN_AND_END, Machine(1, [(0,), (0,)]), Machine(2, [(0, 0), (1, 0)]))


def of_columns(columns):
    return Machine(len(columns), list(zip(*columns)))


def machines():
    """Machines whose commands are all one-to-one."""
    chance = random.Random("by counts")
    small = [list(itertools.permutations(range(states))) for states in (1, 2, 3)]
    found = [of_columns(columns) for turns in small for many in (1, 2) for columns in itertools.product(turns, repeat=many)]
    for states, many in ((3, 3), (4, 1), (4, 2), (4, 3), (5, 2)):
        turns = list(itertools.permutations(range(states)))
        found.extend(of_columns([chance.choice(turns) for _ in range(many)]) for _ in range(4))
    return found + [SHOWN, TURN, CARDS, SUMS, ONE, of_columns([(1, 2, 3, 0), (2, 3, 0, 1), (3, 0, 1, 2)])]


def plain_table(machine, row):
    states = range(machine.states)
    back = {plain.lead(machine.steps, state, row): state for state in states}
    return tuple(
        tuple(plain.lead(machine.steps, back[now], (x,) + tuple(row)) for now in states) for x in range(machine.commands)
    )


def is_fault(machine, value):
    if type(value) is not tuple or len(value) != 4:
        return False
    if not all(plain.is_below(x, machine.commands) for x in value[:3]) or not plain.is_below(value[3], machine.states):
        return False
    a, b, x, now = value
    return plain_table(machine, (a, b))[x][now] != plain_table(machine, (b, a))[x][now]


def all_values(machine):
    each = range(machine.commands)
    return itertools.product(each, each, each, range(machine.states))


class TableTest(Case):
    def test_all_short_rows(self):
        for machine in machines():
            for row in plain.rows(machine.commands, 3):
                found = table(machine, row)
                self.assertEqual(found, plain_table(machine, row))
                self.assertEqual({type(entry) for entry in found + (found,)}, {tuple})
                self.assertEqual(table(machine=machine, row=list(row)), found)

    def test_the_empty_row(self):
        self.assertEqual(table(SHOWN, ()), ((1, 0, 2), (1, 2, 0)))
        self.assertEqual(table(ONE, [0]), ((0,),))
        self.assertEqual(table(SUMS, (0, 0)), ((1, 2, 0),))

    def test_what_should_stand(self):
        for machine in machines()[::5]:
            for row, state, x in itertools.product(
                plain.rows(machine.commands, 3), range(machine.states), range(machine.commands),
            ):
                now = plain.lead(machine.steps, state, row)
                self.assertEqual(table(machine, row)[x][now], plain.lead(machine.steps, state, (x,) + row))

    def test_rows_that_are_none(self):
        for value, at in NO_ROWS:
            self.fails(InvalidRow, at, table, CARDS, value)

    def test_commands_that_are_not_one_to_one_go_first(self):
        for machine in JOINING:
            self.fails(Refused, 0, table, machine, None)
            self.fails(Refused, 0, table, machine, (0,))
            self.fails(Refused, 0, tables, machine)
            self.fails(Refused, 0, order_fault, machine)
            for value in (None, (), (0, 0, 0, 0), (0, 1, 0, 0)):
                self.fails(Refused, 0, is_order_fault, machine, value)

    def test_at_the_limits(self):
        chance = random.Random("tables")
        for _ in range(4):
            machine = of_columns([chance.sample(range(10), 10) for _ in range(5)])
            row = [chance.randrange(5) for _ in range(10000)]
            self.assertEqual(table(machine, row), plain_table(machine, row))
            found = order_fault(machine)
            self.assertTrue(is_fault(machine, found))
            self.assertIs(is_order_fault(machine, found), True)
        for machine in (LONG, WIDE_HEAVY, CARDS_AND_STOCKS):
            self.fails(Refused, 0, table, machine, (0,))


class TablesTest(Case):
    def test_as_shown(self):
        self.assertEqual(tables(SHOWN)[0], ((0, 2, 1), (1, 2, 0)))

    def test_of_all_rows(self):
        for machine in machines():
            wanted = {plain_table(machine, row) for row in plain.effects(machine).values()}
            self.assertEqual(tables(machine), tuple(sorted(wanted)))
            self.assertEqual(tables(machine=machine), tables(machine))

    def test_of_all_short_rows(self):
        for machine in machines()[::3]:
            found = tables(machine)
            for row in plain.rows(machine.commands, 4):
                self.assertIn(plain_table(machine, row), found)

    def test_their_number(self):
        for machine in machines():
            effects = list(plain.effects(machine))
            each = [plain.ends(machine, (x,)) for x in range(machine.commands)]
            places = range(machine.states)
            free = [done for done in effects if all(done[x[s]] == x[done[s]] for x in each for s in places)]
            self.assertEqual(len(tables(machine)) * len(free), len(effects))

    def test_one_state_and_one_command(self):
        self.assertEqual(tables(ONE), (((0,),),))
        self.assertEqual(tables(Machine(3, [(0, 0, 0)])), (((0,), (0,), (0,)),))
        self.assertEqual(tables(TURN), (((1, 0),),))
        self.assertEqual(tables(SUMS), (((1, 2, 0),),))

    def test_at_the_limits(self):
        chance = random.Random("all tables")
        machine = of_columns([(1, 2, 3, 4, 5, 0), (1, 0, 2, 3, 4, 5)] + [chance.sample(range(6), 6) for _ in range(3)])
        found = tables(machine)
        self.assertEqual(len(found), 720)
        self.assertEqual(list(found), sorted(set(found)))
        for _ in range(50):
            self.assertIn(plain_table(machine, tuple(chance.randrange(5) for _ in range(20))), found)


class OrderFaultTest(Case):
    def test_as_shown(self):
        self.assertIsNone(order_fault(TURN))
        self.assertIs(is_order_fault(SHOWN, (0, 1, 0, 0)), True)

    def test_against_all_values(self):
        told = set()
        for machine in machines():
            faults = [value for value in all_values(machine) if is_fault(machine, value)]
            found = order_fault(machine)
            self.assertEqual(order_fault(machine=machine), found)
            self.assertEqual(found is None, not faults)
            self.assertTrue(found is None or found in faults)
            for value in all_values(machine):
                self.assertIs(is_order_fault(machine, value), value in faults)
            told.add(found is None)
        self.assertEqual(len(told), 2)

    def test_without_one_it_is_enough_how_often_each_came(self):
        for machine in machines():
            if order_fault(machine) is None:
                for row in plain.rows(machine.commands, 4):
                    self.assertEqual(table(machine, row), table(machine, sorted(row)))

    def test_values_with_one_place_changed(self):
        for machine in machines():
            found = order_fault(machine)
            for value in plain.changed(found) if found is not None else (None, (), (0, 0, 0, 0), [0, 0, 0, 0]):
                self.assertIs(is_order_fault(machine, value), is_fault(machine, value))

    def test_what_is_none(self):
        for value in (
            None, 0, "0100", (), [0, 1, 0, 0], (0, 1, 0), (0, 1, 0, 0, 0), (False, 1, 0, 0), (0, True, 0, 0),
            (0, 1, False, 0), (0, 1, 0, False), (0, 1, 0, 3), (0, 2, 0, 0), (-2, 1, 0, 0), (0, 1, 0, -3), (0, 1, 0, None),
            (0.0, 1, 0, 0), ((0,), 1, 0, 0), (0, 0, 0, 0), (1, 1, 0, 2), {}, SHOWN,
        ):
            self.assertIs(is_order_fault(SHOWN, value), False)
        self.assertIs(is_order_fault(machine=SHOWN, value=(1, 0, 0, 0)), True)

    def test_machines_in_turn(self):
        for _ in range(2):
            told = [(len(tables(machine)), order_fault(machine) is None) for machine in (SHOWN, SUMS, CARDS, ONE)]
            self.assertEqual(told, [(6, False), (1, True), (6, False), (1, True)])


if __name__ == "__main__":
    unittest.main()
