import itertools
import unittest

from lateslips.errors import Blind, InvalidQuestion, Refused
from lateslips.heaps import checked_heap
from lateslips.machines import Machine
from lateslips.verdicts import is_load, verdict
from lateslips.weeks import parting_slip, period, week_heap
from tests import plain
from tests.case import CARDS, CARDS_AND_STOCKS, Case, DOWN, FIRST, NEWEST, SUMS, WIDE_HEAVY

LOAD = ((), 0, 0, 1)
# State 3 does what state 1 does, so loads have rows.
COPIED = Machine(2, [(1, 0), (0, 2), (2, 1), (0, 2)])
# Command 0 comes back behind three goes, command 2 behind six.
ROUND = Machine(3, [
    (1, 1, 1), (2, 0, 2), (0, 2, 0), (3, 3, 4), (4, 4, 3),
])
NO_LOADS = (
    None, 0, "load", list(LOAD), ([], 0, 0, 1), ((), False, 0, 1), ((), 0, False, 1), ((), 0, 0, True), ((2,), 0, 0, 1),
    ((), 0, 0, 0), ((), 2, 0, 1), ((), 0, 3, 1), ((), 0, 0), ((), 0, 0, 1, 0), (),
)
NO_CHOICES = (
    None, 0, "01", {0: 0}, {0}, iter([0]), (2,), [0, 1, 2], (0, -1), (True,), [0, False], (0.0,), (None,), ("0",), ((0,),),
)


def loads_of(machine):
    """Loads of a machine, with short rows."""
    places = itertools.product(
        plain.rows(machine.commands, 2), range(machine.commands), range(machine.states), range(machine.commands))
    return [value for value in places if is_load(machine, value)]


def machines():
    return plain.some_of_kind(12, "weeks", "heavy") + [CARDS, COPIED, ROUND]


def plain_period(machine, load):
    row, command, _, _ = load
    many = 1
    while plain.ends(machine, (command,) * many + row) != plain.ends(machine, row):
        many += 1
    return many


def plain_week_heap(load, many, choices):
    row, command, _, _ = load
    heap = []
    for week, choice in enumerate(choices):
        first = week * (many + 2)
        heap.append((first if choice == 0 else first + 2, command))
        for k in range(1, many):
            heap.append((first + 2 + k, command))
    for k, entry in enumerate(row):
        heap.append((len(choices) * (many + 2) + k, entry))
    return tuple(heap)


class RefusedTest(Case):
    def test_blind_goes_first(self):
        for load in (None, LOAD, ((), 0, 0, 0)):
            self.fails(Blind, 0, period, FIRST, load)
            self.fails(Blind, 0, week_heap, FIRST, load, None)
            self.fails(Blind, 0, parting_slip, FIRST, load, None, None)

    def test_a_load_of_a_blind_machine(self):
        wider = plain.some_machines(200, "loads of blind ones", commands=(2, 2), states=(3, 4))
        blind = [machine for machine in wider if plain.is_blind(machine) and loads_of(machine)][:5]
        self.assertEqual(len(blind), 5)
        for machine in blind:
            self.fails(Blind, 0, period, machine, loads_of(machine)[0])
            self.fails(Blind, 0, week_heap, machine, loads_of(machine)[0], (0, 1))

    def test_loads(self):
        for load in NO_LOADS:
            self.fails(InvalidQuestion, 1, period, CARDS, load)
            self.fails(InvalidQuestion, 1, week_heap, CARDS, load, None)
            self.fails(InvalidQuestion, 1, parting_slip, CARDS, load, None, None)
        for machine in (NEWEST, SUMS, DOWN):
            self.fails(InvalidQuestion, 1, period, machine, LOAD)
            self.fails(InvalidQuestion, 1, week_heap, machine, LOAD, ())
            self.fails(InvalidQuestion, 1, parting_slip, machine, LOAD, (0,), (1,))

    def test_choices(self):
        for choices in NO_CHOICES:
            self.fails(InvalidQuestion, 2, week_heap, CARDS, LOAD, choices)
            self.fails(InvalidQuestion, 2, parting_slip, CARDS, LOAD, choices, None)
            self.fails(InvalidQuestion, 3, parting_slip, CARDS, LOAD, (0, 1), choices)

    def test_no_parting_slip(self):
        for one, other in (((), ()), ((0,), (0,)), ([0, 1], (0, 1)), ((0, 1), (0,)), ((0,), (1, 0)), ((), (1,)),
                           ((0, 1, 1), (0, 1, 1))):
            self.fails(Refused, 0, parting_slip, CARDS, LOAD, one, other)
            self.fails(Refused, 0, parting_slip, machine=CARDS, load=LOAD, choices=other, others=one)


class WeeksTest(Case):
    def test_as_shown(self):
        self.assertEqual(week_heap(CARDS, LOAD, (0, 1)), ((0, 0), (3, 0), (6, 0), (7, 0)))
        self.assertEqual(parting_slip(CARDS, LOAD, (0, 1), (1, 1)), (1, 1))

    def test_against_plain_reckoning(self):
        for machine in machines():
            for load in loads_of(machine)[::7]:
                many = plain_period(machine, load)
                self.assertEqual(period(machine=machine, load=load), many)
                for weeks in range(4):
                    for choices in itertools.product((0, 1), repeat=weeks):
                        found = week_heap(machine=machine, load=load, choices=list(choices))
                        self.assertEqual(found, plain_week_heap(load, many, choices))
                        self.assertEqual(checked_heap(machine, found), found)
                        self.assertEqual(len(found), many * weeks + len(load[0]))

    def test_more_than_one_go(self):
        self.assertEqual(period(CARDS, LOAD), 2)
        self.assertEqual([period(ROUND, ((), command, 0, 1)) for command in (0, 2)], [3, 6])
        self.assertEqual(week_heap(ROUND, ((), 0, 0, 1), [1, 0]), ((2, 0), (3, 0), (4, 0), (5, 0), (8, 0), (9, 0)))
        self.assertEqual(parting_slip(ROUND, ((), 2, 0, 1), [1, 0], [1, 1]), (9, 1))

    def test_a_load_with_a_row(self):
        load = verdict(COPIED)[1][1]
        row, command, _, late = load
        self.assertEqual(period(COPIED, load), 2)
        self.assertEqual(week_heap(COPIED, load, ()), ((0, row[0]),))
        self.assertEqual(week_heap(COPIED, load, (1,)), ((2, command), (3, command), (4, row[0])))
        self.assertEqual(parting_slip(COPIED, load, (1, 0, 0), (1, 0, 1)), (9, late))

    def test_parting(self):
        for machine in machines():
            for load in loads_of(machine)[::11]:
                for weeks in (1, 2, 3):
                    self.all_choices_part(machine, load, weeks)

    def all_choices_part(self, machine, load, weeks):
        each = list(itertools.product((0, 1), repeat=weeks))
        heaps = {choices: week_heap(machine, load, choices) for choices in each}
        self.assertEqual(len({plain.truth(machine, load[2], heap) for heap in heaps.values()}), 1)
        for one, other in itertools.permutations(each, 2):
            slip = parting_slip(machine, load, one, list(other))
            week = [first == second for first, second in zip(one, other)].index(False)
            self.assertEqual(slip, (week * (plain_period(machine, load) + 2) + 1, load[3]))
            ends = [plain.truth(machine, load[2], heaps[choices] + (slip,)) for choices in (one, other)]
            self.assertNotEqual(*ends)

    def test_at_the_limits(self):
        row = (0, 1) * 5000
        load = (row, 0, 0, 1)
        self.assertEqual(period(CARDS, load), 2)
        heap = week_heap(CARDS, load, [0, 1] * 100)
        self.assertEqual((len(heap), heap[0], heap[-1]), (10400, (0, 0), (10799, 1)))
        self.assertEqual(parting_slip(CARDS, load, [0] * 199 + [1], [0] * 200), (797, 1))
        for machine in (CARDS_AND_STOCKS, WIDE_HEAVY):
            load = verdict(machine)[1][1]
            heaps = [week_heap(machine, load, choices) for choices in ((0,) * 40, (0,) * 39 + (1,))]
            slip = parting_slip(machine, load, (0,) * 40, (0,) * 39 + (1,))
            ends = [plain.truth(machine, load[2], heap) for heap in heaps]
            late = [plain.truth(machine, load[2], heap + (slip,)) for heap in heaps]
            self.assertEqual((ends[0] == ends[1], late[0] == late[1]), (True, False))

    def test_choices_changed_later(self):
        choices = [0, 1]
        heap = week_heap(CARDS, LOAD, choices)
        self.assertEqual(choices, [0, 1])
        choices[0] = 1
        self.assertEqual(heap, ((0, 0), (3, 0), (6, 0), (7, 0)))

    def test_machines_in_turn(self):
        for _ in range(2):
            self.assertEqual((period(CARDS, LOAD), period(ROUND, LOAD)), (2, 3))


if __name__ == "__main__":
    unittest.main()
