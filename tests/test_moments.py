import itertools
import random
import unittest

from lateslips.errors import Blind, InvalidQuestion, InvalidSlip, Refused
from lateslips.moments import ends_of_all, moment_ends, placed_end, placing_to, possible_ends
from lateslips.stuck import longest_stuck
from tests import plain
from tests.case import (
    CARDS, CARDS_AND_STOCKS, Case, DOWN, FIRST, LONG, NEWEST, NO_COMMANDS, NO_HEAPS, ONE, SUMS, TURN_AND_END,
    WIDE_HEAVY,
)

NO_STATES = plain.NO_NUMBERS + (2, 10 ** 20)
CALLS = (moment_ends, possible_ends, placed_end, ends_of_all, placing_to)
KEPT = ((4, 1),)


def sighted():
    return (
        plain.some_of_kind(6, "moments", "tray") + plain.some_of_kind(4, "moments", "heavy")
        + [NEWEST, SUMS, CARDS, DOWN, TURN_AND_END, ONE]
    )


def ways_back(machine, now, kept):
    return [state for state in range(machine.states) if plain.truth(machine, state, kept) == now]


def standings(machine, times):
    """All pairs of a state and a heap with some of these times, with the ways back, if there are any."""
    for kept in plain.heaps(machine.commands, times):
        for now in range(machine.states):
            if ways_back(machine, now, kept):
                yield now, kept, ways_back(machine, now, kept)


def plain_moment_ends(machine, state, kept, command):
    row = [entry for _, entry in kept]
    return tuple(plain.lead(machine.steps, state, row[:j] + [command] + row[j:]) for j in range(len(row) + 1))


def plain_possible(ends, kept, first, last):
    times = [time for time, _ in kept]
    last = max(times + [first]) + 5 if last is None else last
    free = [time for time in range(first, last + 1) if time not in times]
    return tuple(sorted({ends[sum(one < time for one in times)] for time in free}))


def placings(slips, commands):
    """All placings of so many commands."""
    for order in itertools.permutations(range(commands)):
        for places in itertools.combinations_with_replacement(range(slips + 1), commands):
            yield tuple(zip(places, order))


def plain_placed(machine, state, kept, commands, placing):
    row = []
    for j in range(len(kept) + 1):
        row += [commands[i] for at, i in placing if at == j]
        row += [kept[j][1]] if j < len(kept) else []
    return plain.lead(machine.steps, state, row)


def is_placing(value, slips, commands):
    if type(value) is not tuple or not all(type(entry) is tuple and len(entry) == 2 for entry in value):
        return False
    if not all(plain.is_below(number, 10 ** 9) for entry in value for number in entry):
        return False
    return value in set(placings(slips, commands))


class MomentEndsTest(Case):
    def test_as_shown(self):
        self.assertEqual(moment_ends(NEWEST, 1, ((4, 1),), 0), (1, 0))

    def test_any_way_back(self):
        for machine in sighted():
            for now, kept, ways in standings(machine, (1, 4, 6)):
                for command in range(machine.commands):
                    found = moment_ends(machine, now, kept, command)
                    for state in ways:
                        self.assertEqual(found, plain_moment_ends(machine, state, kept, command))

    def test_arguments_by_name_and_in_any_order(self):
        kept = [(6, 0), (2, 1)]
        found = moment_ends(machine=DOWN, now=1, kept=kept, command=0)
        self.assertEqual(found, (0, 0, 0))
        self.assertIs(type(found), tuple)
        self.assertEqual(kept, [(6, 0), (2, 1)])
        kept.clear()
        self.assertEqual(found, (0, 0, 0))
        self.assertEqual(moment_ends(SUMS, 2, [], 0), (0,))
        self.assertEqual(moment_ends(ONE, 0, ((0, 0),), 0), (0, 0))

    def test_the_entry_for_the_lesser_times_is_the_truth(self):
        for machine in sighted():
            times = (1, 3, 6)
            for heap in plain.heaps(machine.commands, times):
                tray = plain.tray(machine, heap)
                for kept in {tray, heap, tray + tuple(slip for slip in heap[:1] if slip not in tray)}:
                    kept = tuple(sorted(kept))
                    for state, slip in itertools.product(range(machine.states), [(0, 0), (2, 0), (5, 0), (9, 0)]):
                        found = moment_ends(machine, plain.truth(machine, state, heap), kept, slip[1])
                        many = sum(time < slip[0] for time, _ in kept)
                        self.assertEqual(found[many], plain.truth(machine, state, heap + (slip,)))

    def test_few_answers_in_a_tray_machine(self):
        for machine in plain.some_of_kind(10, "few answers", "tray") + [NEWEST, DOWN, SUMS]:
            most = len(longest_stuck(machine))
            for now, kept, _ in standings(machine, (1, 4, 6)):
                for command in range(machine.commands):
                    self.assertLessEqual(len(moment_ends(machine, now, plain.tray(machine, kept), command)) - 1, most)

    def test_at_the_limits(self):
        chance = random.Random("moments")
        for machine in (LONG, WIDE_HEAVY, CARDS_AND_STOCKS, plain.WIDE):
            kept = [(3 * time, chance.randrange(5)) for time in range(200)]
            state = chance.randrange(10)
            now = plain.truth(machine, state, kept)
            for command in range(5):
                self.assertEqual(
                    moment_ends(machine, now, kept[::-1], command), plain_moment_ends(machine, state, kept, command),
                )


class PossibleEndsTest(Case):
    def test_as_shown(self):
        self.assertEqual(possible_ends(NEWEST, 1, ((4, 1),), 0, last=3), (1,))

    def test_all_small_times(self):
        for machine in sighted():
            for now, kept, ways in list(standings(machine, (1, 2, 5)))[::2]:
                for command in range(machine.commands):
                    ends = plain_moment_ends(machine, ways[-1], kept, command)
                    self.assertEqual(possible_ends(machine, now, kept, command), plain_possible(ends, kept, 0, None))
                    for first, last in itertools.product((0, 1, 2, 3, 5, 7), (None, 0, 1, 2, 4, 5, 6)):
                        wanted = plain_possible(ends, kept, first, last)
                        self.assertEqual(possible_ends(machine, now, kept, command, first=first, last=last), wanted)

    def test_first_and_last(self):
        kept = ((0, 0), (4, 1), (5, 0), (9, 1))
        cases = (
            ({}, (0, 1)), ({"first": 9}, (0,)), ({"first": 8}, (0, 1)), ({"first": 8, "last": 9}, (1,)),
            ({"last": 0}, ()), ({"first": 4, "last": 5}, ()), ({"first": 4, "last": 4}, ()), ({"first": 7, "last": 7}, (1,)),
            ({"first": 7, "last": 6}, ()), ({"first": 10 ** 40}, (0,)), ({"last": 10 ** 40}, (0, 1)), ({"last": None}, (0, 1)),
            ({"first": 10, "last": 10}, (0,)), ({"first": 0, "last": 1}, (1,)),
        )
        for named, wanted in cases:
            self.assertEqual(possible_ends(NEWEST, 1, kept, 0, **named), wanted, named)
        self.assertEqual(possible_ends(machine=NEWEST, now=1, kept=kept, command=0, first=8, last=10), (0, 1))
        self.by_name_alone(possible_ends, NEWEST, 1, kept, 0, 3)

    def test_no_way_back_though_no_time_is_possible(self):
        self.fails(Refused, 2, possible_ends, NEWEST, 0, ((4, 1),), 0, first=9, last=3)
        self.assertEqual(possible_ends(NEWEST, 1, ((4, 1),), 0, first=9, last=3), ())

    def test_numbers_that_are_none(self):
        for value in plain.NO_NUMBERS:
            self.fails(InvalidQuestion, 4, possible_ends, NEWEST, 0, KEPT, 0, first=value, last="x")
            if value is not None:
                self.fails(InvalidQuestion, 5, possible_ends, NEWEST, 0, KEPT, 0, last=value)
                self.fails(InvalidQuestion, 5, possible_ends, NEWEST, 0, KEPT, 0, first=3, last=value)

    def test_at_the_limits(self):
        chance = random.Random("possible")
        for machine in (LONG, WIDE_HEAVY, CARDS_AND_STOCKS):
            kept = [(3 * time, chance.randrange(5)) for time in range(200)]
            now = plain.truth(machine, 7, kept)
            ends = plain_moment_ends(machine, 7, kept, 3)
            for first, last in ((0, None), (100, 500), (599, 599), (3, 3), (596, 10 ** 30), (601, 600)):
                # Behind all kept slips one time does what all others do.
                wanted = plain_possible(ends, kept, first, last if last is None else min(last, 700))
                self.assertEqual(possible_ends(machine, now, kept, 3, first=first, last=last), wanted)


class PlacedEndTest(Case):
    def test_all_small_ones(self):
        for machine in sighted():
            for now, kept, ways in list(standings(machine, (1, 4)))[::3]:
                for commands in plain.rows(machine.commands, 2):
                    for placing in placings(len(kept), len(commands)):
                        found = placed_end(machine, now, kept, commands, placing)
                        for state in ways:
                            self.assertEqual(found, plain_placed(machine, state, kept, commands, placing))

    def test_no_commands(self):
        self.assertEqual(placed_end(NEWEST, 1, ((4, 1),), (), ()), 1)
        self.assertEqual(placed_end(machine=SUMS, now=2, kept=(), commands=[], placing=()), 2)

    def test_another_order_of_the_indexes(self):
        kept = ((4, 1), (6, 1))
        self.assertEqual(placed_end(NEWEST, 1, kept, [0, 1], ((2, 0), (2, 1))), 1)
        self.assertEqual(placed_end(NEWEST, 1, kept, [0, 1], ((2, 1), (2, 0))), 0)
        self.assertEqual(placed_end(NEWEST, 1, kept, [1, 0, 0], ((0, 2), (2, 1), (2, 0))), 1)

    def test_six_commands(self):
        for placing in list(placings(1, 6))[::50]:
            wanted = plain_placed(CARDS, ways_back(CARDS, 1, ((3, 1),))[0], ((3, 1),), (0, 1, 1, 0, 0, 1), placing)
            self.assertEqual(placed_end(CARDS, 1, [(3, 1)], [0, 1, 1, 0, 0, 1], placing), wanted)

    def test_values_that_are_no_placings(self):
        kept, commands = ((4, 1), (6, 0)), (0, 1)
        for value in (
            None, 0, "", (), [(0, 0), (1, 1)], ((0, 0),), ((0, 0), (1, 1), (2, 0)), ((1, 0), (0, 1)), ((2, 1), (1, 0)),
            ([0, 0], (1, 1)), ((0, 0), (1, 2)), ((0, 0), (3, 1)), ((0, 0), (0, 0)), ((0, 1), (1, 1)), ((0, 0, 0), (1, 1)),
            ((0, False), (0, True)), ((False, 0), (True, 1)), ((-1, 0), (0, 1)), ((0, -1), (1, 0)), ((0.0, 0), (1, 1)),
            ((0, None), (1, 1)), (0, 1), ((0,), (1,)), {(0, 0): 0, (1, 1): 1}, (((0, 0), (1, 1)),),
        ):
            self.fails(InvalidQuestion, 4, placed_end, NEWEST, 0, kept, commands, value)
            # There is no way back: this goes behind all else.
            self.fails(InvalidQuestion, 4, placed_end, NEWEST, 1, kept, commands, value)
        self.fails(InvalidQuestion, 4, placed_end, NEWEST, 1, (), (), ((0, 0),))

    def test_values_with_one_place_changed(self):
        kept, commands = ((4, 1), (6, 0)), (0, 1, 1)
        for placing in (((0, 2), (1, 0), (2, 1)), ((1, 1), (1, 0), (1, 2)), ((0, 0), (0, 1), (2, 2))):
            for value in plain.changed(placing):
                if is_placing(value, 2, 3):
                    self.assertEqual(placed_end(NEWEST, 0, kept, commands, value), plain_placed(NEWEST, 0, kept, commands, value))
                else:
                    self.fails(InvalidQuestion, 4, placed_end, NEWEST, 0, kept, commands, value)

    def test_at_the_limits(self):
        chance = random.Random("placed")
        for machine in (LONG, WIDE_HEAVY, CARDS_AND_STOCKS):
            kept = tuple((2 * time, chance.randrange(5)) for time in range(200))
            now = plain.truth(machine, 9, kept)
            commands = [chance.randrange(5) for _ in range(6)]
            order = chance.sample(range(6), 6)
            placing = tuple(zip(sorted(chance.randrange(201) for _ in range(6)), order))
            self.assertEqual(
                placed_end(machine, now, kept, commands, placing), plain_placed(machine, 9, kept, commands, placing),
            )


class EndsOfAllTest(Case):
    def test_as_shown(self):
        self.assertEqual(ends_of_all(NEWEST, 1, ((4, 1),), [0]), (0, 1))

    def test_all_small_ones(self):
        for machine in sighted():
            for now, kept, ways in list(standings(machine, (1, 4)))[::2]:
                for commands in plain.rows(machine.commands, 3):
                    each = list(placings(len(kept), len(commands)))
                    wanted = {plain_placed(machine, ways[-1], kept, commands, placing) for placing in each}
                    self.assertEqual(ends_of_all(machine, now, kept, commands), tuple(sorted(wanted)))
                    for end in range(machine.states):
                        found = placing_to(machine, now, kept, list(commands), end)
                        self.assertEqual(found is not None, end in wanted)
                        if found is not None:
                            self.assertTrue(is_placing(found, len(kept), len(commands)))
                            self.assertEqual(placed_end(machine, now, kept, commands, found), end)

    def test_put_in_at_any_places_of_the_heap(self):
        for machine in sighted()[::2]:
            for heap in plain.heaps(machine.commands, (1, 4, 6)):
                row = tuple(command for _, command in heap)
                kept = plain.tray(machine, heap)
                for commands in plain.rows(machine.commands, 2):
                    rows = [row]
                    for command in commands:
                        rows = [one[:at] + (command,) + one[at:] for one in rows for at in range(len(one) + 1)]
                    for state in range(machine.states):
                        wanted = {plain.lead(machine.steps, state, one) for one in rows}
                        found = ends_of_all(machine, plain.truth(machine, state, heap), kept, commands)
                        self.assertEqual(found, tuple(sorted(wanted)))

    def test_no_commands_and_six(self):
        self.assertEqual(ends_of_all(NEWEST, 1, KEPT, ()), (1,))
        self.assertEqual(placing_to(NEWEST, 1, KEPT, [], 1), ())
        self.assertIsNone(placing_to(machine=NEWEST, now=1, kept=KEPT, commands=(), end=0))
        self.assertEqual(ends_of_all(machine=SUMS, now=1, kept=(), commands=[0] * 6), (1,))
        self.assertIsNone(placing_to(SUMS, 1, (), [0] * 6, 0))
        found = placing_to(SUMS, 1, (), [0] * 6, 1)
        self.assertTrue(is_placing(found, 0, 6))
        self.assertEqual(ends_of_all(ONE, 0, [(5, 0)], [0] * 6), (0,))

    def test_states_that_are_none(self):
        for value in NO_STATES:
            self.fails(InvalidQuestion, 4, placing_to, NEWEST, 1, KEPT, (0,), value)
            self.fails(InvalidQuestion, 4, placing_to, NEWEST, 0, KEPT, (0,), value)

    def test_at_the_limits(self):
        chance = random.Random("all ends")
        for machine in (LONG, WIDE_HEAVY, CARDS_AND_STOCKS, plain.WIDE):
            kept = tuple((2 * time, chance.randrange(5)) for time in range(200))
            now = plain.truth(machine, 4, kept)
            commands = [chance.randrange(5) for _ in range(6)]
            found = ends_of_all(machine, now, kept, commands)
            for _ in range(30):
                order = chance.sample(range(6), 6)
                placing = tuple(zip(sorted(chance.randrange(201) for _ in range(6)), order))
                self.assertIn(plain_placed(machine, 4, kept, commands, placing), found)
            for end in range(10):
                placing = placing_to(machine, now, kept, commands, end)
                self.assertEqual(placing is not None, end in found)
                if placing is not None:
                    self.assertEqual(plain_placed(machine, 4, kept, commands, placing), end)


class ErrorTest(Case):
    def call(self, call, *begun):
        """The arguments, filled up with ones that are wrong."""
        wrong = (None, None, None, None, None)
        many = {moment_ends: 3, possible_ends: 3, placed_end: 4, ends_of_all: 3, placing_to: 4}[call]
        return begun + wrong[len(begun) - 1:many]

    def test_a_blind_machine_goes_first(self):
        for call in CALLS:
            self.fails(Blind, 0, call, *self.call(call, FIRST))
            self.fails(Blind, 0, call, *self.call(call, FIRST, 1, ((5, 0),)))
            self.fails(Blind, 0, call, *self.call(call, FIRST, 0, ((5, 0),)))

    def test_then_what_stands(self):
        for call in CALLS:
            for value in NO_STATES:
                self.fails(InvalidQuestion, 1, call, *self.call(call, NEWEST, value))

    def test_then_the_heap(self):
        for call in CALLS:
            for value, at in NO_HEAPS:
                self.fails(InvalidSlip, at, call, *self.call(call, NEWEST, 0, value))

    def test_then_the_command(self):
        for call in (moment_ends, possible_ends):
            for value in NO_COMMANDS:
                self.fails(InvalidQuestion, 3, call, *self.call(call, NEWEST, 0, KEPT, value))
        self.fails(InvalidQuestion, 3, possible_ends, NEWEST, 0, KEPT, None, first=None, last="x")

    def test_then_the_commands(self):
        for call in (placed_end, ends_of_all, placing_to):
            for value in (
                None, 0, "", "01", {0: 0}, {0}, range(2), (True,), [False], (0, 2), [0, -1], ((0,),), [[0]], (0, None),
                (0.0,), (0,) * 7, [0] * 8, ("0",),
            ):
                self.fails(InvalidQuestion, 3, call, *self.call(call, NEWEST, 0, KEPT, value))

    def test_no_way_back_goes_last(self):
        self.fails(Refused, 2, moment_ends, NEWEST, 0, KEPT, 0)
        self.fails(Refused, 2, possible_ends, NEWEST, 0, KEPT, 0)
        self.fails(Refused, 2, placed_end, NEWEST, 0, KEPT, (0,), ((0, 0),))
        self.fails(Refused, 2, ends_of_all, NEWEST, 0, KEPT, (0,))
        self.fails(Refused, 2, placing_to, NEWEST, 0, KEPT, (), 0)

    def test_lists_stay_as_they_are(self):
        kept, commands = [(6, 1), (4, 1)], [0, 1]
        found = placing_to(NEWEST, 1, kept, commands, 0)
        self.assertEqual((kept, commands), ([(6, 1), (4, 1)], [0, 1]))
        kept.clear()
        commands.append(0)
        self.assertEqual(placed_end(NEWEST, 1, [(6, 1), (4, 1)], [0, 1], found), 0)

    def test_machines_in_turn(self):
        for _ in range(2):
            told = [moment_ends(machine, 0, (), 0) for machine in (NEWEST, SUMS, CARDS, ONE)]
            self.assertEqual(told, [(0,), (1,), (1,), (0,)])


if __name__ == "__main__":
    unittest.main()
