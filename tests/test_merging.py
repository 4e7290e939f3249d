import itertools
import random
import unittest

from lateslips.copies import taken_all
from lateslips.errors import Blind, InvalidQuestion, Refused
from lateslips.machines import Machine
from lateslips.merging import is_road, merge, road
from tests import plain
from tests.case import (
    CARDS, CARDS_AND_STOCKS, Case, DOWN, FIRST, LONG, NEWEST, NO_STANDINGS, ONE, SUMS, TURN_AND_END, WIDE_HEAVY,
)
from tests.test_copies import NEW_BASE, all_standings, plain_beginnings, sighted

NO_ROADS = (
    None, 0, "0", [0, 0], (0, 0, 0), (True,), (0, False), (1,), (-1,), ((0, 0),), (0.0, 0), (None,), {0: 0}, ("0", "0"),
)


def plain_is_road(machine, base, standing, row):
    whole = tuple(row) + tuple(command for _, command in standing[1])
    return all(plain.lead(machine.steps, state, whole) == standing[0] for state in plain_beginnings(machine, base))


def plain_road(machine, base, standing):
    rows = [row for row in plain.effects(machine).values() if plain_is_road(machine, base, standing, row)]
    return min(rows, key=lambda row: (len(row), row), default=None)


def plain_merge(machine, base, standings, roads):
    heap = tuple(sorted(set(base[1]).union(*[standing[1] for standing in standings])))
    row = sum(roads, ()) + tuple(command for _, command in heap)
    ends = {plain.lead(machine.steps, state, row) for state in plain_beginnings(machine, base)}
    assert len(ends) == 1
    return (ends.pop(), plain.tray(machine, heap))


class RoadTest(Case):
    def test_as_shown(self):
        self.assertEqual(road(SUMS, (1, ()), (0, ())), (0, 0))

    def test_all_small_ones(self):
        for machine in sighted():
            standings = list(all_standings(machine, (1, 4)))
            for base, standing in itertools.product(standings, repeat=2):
                if set(base[1]) <= set(standing[1]):
                    self.assertEqual(road(machine, base, standing), plain_road(machine, base, standing))

    def test_whether_rows_are_roads(self):
        for machine in sighted():
            standings = list(all_standings(machine, (1, 4)))[::3]
            for base, standing in itertools.product(standings, repeat=2):
                if set(base[1]) <= set(standing[1]):
                    for row in plain.rows(machine.commands, 2):
                        wanted = plain_is_road(machine, base, standing, row)
                        self.assertIs(is_road(machine=machine, base=base, standing=standing, value=row), wanted)
                        self.assertIs(is_road(machine, base, standing, list(row)), False)

    def test_values_that_are_no_roads(self):
        self.assertIs(is_road(SUMS, (1, ()), (0, ()), (0, 0)), True)
        self.assertIs(is_road(SUMS, (1, ()), (0, ()), (0,) * 9998), True)
        self.assertIs(is_road(SUMS, (1, ()), (0, ()), (0,) * 9999), False)
        for value in NO_ROADS:
            self.assertIs(is_road(SUMS, (1, ()), (0, ()), value), False, value)

    def test_no_road(self):
        self.assertIsNone(road(DOWN, (0, ()), (2, ())))
        self.assertIsNone(road(machine=DOWN, base=(1, ()), standing=(2, ())))
        self.assertEqual(road(DOWN, (2, ()), (0, ())), (0, 0))
        self.assertEqual(road(ONE, (0, ()), (0, ())), ())

    def test_which_error_goes_first(self):
        for call, rest in ((road, ()), (is_road, (None,)), (is_road, ((0, 0),))):
            for value in NO_STANDINGS + ((0, ()),):
                self.fails(Blind, 0, call, FIRST, value, None, *rest)
            for value in NO_STANDINGS:
                self.fails(InvalidQuestion, 1, call, NEWEST, value, None, *rest)
                self.fails(InvalidQuestion, 2, call, NEWEST, (0, ()), value, *rest)
            for standing in ((0, ()), (1, ((5, 1),)), (0, ((4, 0),)), (1, ((3, 0), (5, 1)))):
                self.fails(InvalidQuestion, 2, call, NEWEST, NEW_BASE, standing, *rest)

    def test_at_the_limits(self):
        # Ten states in a ring, each of which stands for itself.
        ring = Machine(5, [[(state + 1) % 10] + [state] * 4 for state in range(10)])
        self.assertEqual(road(ring, (3, ()), (2, ())), (0,) * 9)
        heap = tuple((time, time % 5) for time in range(200))
        standing = (plain.truth(ring, 7, heap), heap)
        self.assertEqual(road(ring, (5, ()), standing), (0, 0))
        self.assertIs(is_road(ring, (5, ()), standing, (0,) * 9992), True)


class MergeTest(Case):
    def test_as_shown(self):
        self.assertEqual(merge(SUMS, (0, ()), [(2, ()), (2, ())]), (1, ()))
        self.assertEqual(merge(NEWEST, (0, ()), [(1, ((4, 1),)), (0, ((6, 0),))]), (0, ((6, 0),)))

    def test_copies_that_took_slips(self):
        chance = random.Random("merge")
        for machine in sighted():
            bases = list(all_standings(machine, (5, 11)))
            for _ in range(40):
                base = chance.choice(bases)
                lots = self.own_slips(machine, chance)
                standings = [taken_all(machine, base, slips) for slips in lots]
                self.compare(machine, base, lots, standings, chance)

    def own_slips(self, machine, chance):
        """The slips of up to three copies, in the order in which they come."""
        times = chance.sample([time for time in range(14) if time not in (5, 11)], 6)
        cuts = sorted(chance.randrange(7) for _ in range(3))
        slips = [(time, chance.randrange(machine.commands)) for time in times]
        return [slips[one:other] for one, other in zip([0] + cuts, cuts)]

    def compare(self, machine, base, lots, standings, chance):
        whole = base[1] + tuple(slip for slips in lots for slip in slips)
        roads = [plain_road(machine, base, standing) for standing in standings]
        wanted = plain_merge(machine, base, standings, roads)
        self.assertEqual(merge(machine, base, standings), wanted)
        for state in plain_beginnings(machine, base):
            self.assertEqual(wanted[0], plain.truth(machine, state, whole))
        self.assertLessEqual(set(plain.tray(machine, whole)), set(wanted[1]))
        order = list(range(len(lots)))
        chance.shuffle(order)
        shuffled = tuple(standings[index] for index in order)
        others = [self.any_road(machine, base, standing, chance) for standing in shuffled]
        found = merge(machine=machine, base=base, standings=shuffled, roads=others)
        self.assertEqual(found, plain_merge(machine, base, shuffled, others))
        self.assertEqual(found, wanted)

    def any_road(self, machine, base, standing, chance):
        rows = [row for row in plain.rows(machine.commands, 3) if plain_is_road(machine, base, standing, row)]
        return chance.choice(rows + [plain_road(machine, base, standing)])

    def test_any_standings(self):
        chance = random.Random("any standings")
        for machine in sighted():
            bases = list(all_standings(machine, (4,)))
            standings = list(all_standings(machine, (1, 4, 6)))
            for _ in range(60):
                base = chance.choice(bases)
                some = [chance.choice(standings) for _ in range(chance.randrange(4))]
                self.told_or_refused(machine, base, some)

    def told_or_refused(self, machine, base, standings):
        known = set()
        roads = []
        for index, standing in enumerate(standings):
            own = {time for time, _ in set(standing[1]) - set(base[1])}
            wrong = not set(base[1]) <= set(standing[1]) or own & known
            way = None if wrong else plain_road(machine, base, standing)
            if way is None:
                self.fails(Refused, index, merge, machine, base, standings)
                others = [None] * (len(standings) - index)
                self.fails(Refused, index, merge, machine, base, standings, roads=roads + others)
                return
            known |= {time for time, _ in standing[1]}
            roads.append(way)
        wanted = plain_merge(machine, base, standings, roads)
        self.assertEqual(merge(machine, base, standings), wanted)
        self.assertEqual(merge(machine, base, tuple(standings), roads=tuple(roads)), wanted)

    def test_no_copies_and_one(self):
        self.assertEqual(merge(NEWEST, NEW_BASE, []), NEW_BASE)
        self.assertEqual(merge(NEWEST, (0, ((3, 1), (4, 0))), ()), (0, ((4, 0),)))
        self.assertEqual(merge(NEWEST, NEW_BASE, (), roads=[]), NEW_BASE)
        self.assertEqual(merge(NEWEST, NEW_BASE, [(0, ((4, 1), (5, 0)))]), (0, ((5, 0),)))
        self.assertEqual(merge(NEWEST, NEW_BASE, [NEW_BASE, NEW_BASE]), NEW_BASE)
        self.assertEqual(merge(SUMS, (1, ()), [(0, ())], roads=[(0, 0)]), (0, ()))

    def test_roads(self):
        self.assertEqual(merge(SUMS, (0, ()), [(2, ()), (2, ())], roads=[(0, 0), (0,) * 5]), (1, ()))
        self.assertEqual(merge(SUMS, (0, ()), ((2, ()), (2, ())), roads=((0,) * 8, (0, 0))), (1, ()))
        self.assertEqual(merge(SUMS, (0, ()), ((2, ()), (2, ())), roads=None), (1, ()))
        for value in NO_ROADS:
            self.fails(Refused, 1, merge, SUMS, (1, ()), [(0, ()), (0, ())], roads=[(0, 0), value])
            self.fails(Refused, 0, merge, SUMS, (1, ()), [(0, ()), (0, ())], roads=(value, None))
        self.by_name_alone(merge, SUMS, (0, ()), (), ())

    def test_roads_go_in_their_order(self):
        # Nothing is kept, so these copies cannot have taken slips; what is told hangs on the order, then.
        base, standings, shortest = (0, ()), [(1, ()), (2, ())], ((0,), (0, 1))
        for roads in (shortest, ((1, 0), (0, 1)), ((0, 1, 1), (0, 1, 1, 1))):
            self.assertEqual(merge(CARDS, base, standings, roads=roads), plain_merge(CARDS, base, standings, roads))
        self.assertEqual(merge(CARDS, base, standings), plain_merge(CARDS, base, standings, shortest))
        self.assertEqual(merge(CARDS, base, standings)[0], 0)
        self.assertEqual(merge(CARDS, base, standings[::-1])[0], 2)

    def test_which_error_goes_first(self):
        for value in NO_STANDINGS + ((0, ()),):
            self.fails(Blind, 0, merge, FIRST, value, None, roads=0)
        for value in NO_STANDINGS:
            self.fails(InvalidQuestion, 1, merge, NEWEST, value, None, roads=0)
            self.fails(InvalidQuestion, 2, merge, NEWEST, NEW_BASE, [(0, ()), value], roads=0)
        for value in (None, 0, "01", {0: 0}, iter([]), NEW_BASE):
            self.fails(InvalidQuestion, 2, merge, NEWEST, NEW_BASE, value, roads=0)
        for value in (0, "0", {0: 0}, (), [], [()], ((), (), ()), True, False, iter([(), ()])):
            self.fails(InvalidQuestion, 3, merge, NEWEST, NEW_BASE, [(0, ()), NEW_BASE], roads=value)
        self.fails(InvalidQuestion, 3, merge, NEWEST, NEW_BASE, [], roads=[()])

    def test_refused_copies(self):
        late = (1, ((3, 0), (4, 1)))
        for standings, index in (
            ([(0, ())], 0), ([NEW_BASE, (1, ((5, 1),))], 1), ([late, late], 1), ([late, NEW_BASE, late], 2),
            ([late, (1, ((3, 1), (4, 1)))], 1), ([late, (0, ((4, 0),))], 1), ([late, (0, ()), late], 1),
            ([NEW_BASE, late, (0, ((2, 1), (4, 1), (5, 0))), (0, ((4, 1), (5, 0)))], 3),
        ):
            self.fails(Refused, index, merge, NEWEST, NEW_BASE, standings)
            self.fails(Refused, index, merge, NEWEST, NEW_BASE, tuple(standings), roads=[()] * len(standings))
        self.fails(Refused, 1, merge, DOWN, (1, ()), [(0, ()), (2, ())])
        self.fails(Refused, 0, merge, machine=DOWN, base=(1, ()), standings=[(2, ()), (0, ())], roads=[(0,), (1,)])

    def test_parting_from_what_was_merged(self):
        chance = random.Random("again and again")
        for machine in sighted():
            for _ in range(5):
                base, whole = (0, ()), []
                times = chance.sample(range(100), 27)
                for _ in range(3):
                    lots = [[(times.pop(), chance.randrange(machine.commands)) for _ in range(3)] for _ in range(3)]
                    base = merge(machine, base, [taken_all(machine, base, slips) for slips in lots])
                    whole.extend(slip for slips in lots for slip in slips)
                    self.assertEqual(base[0], plain.truth(machine, 0, whole))
                    self.assertLessEqual(set(plain.tray(machine, whole)), set(base[1]))

    def test_tray_machines_keep_few(self):
        chance = random.Random("few kept")
        for machine in plain.some_of_kind(12, "few kept", "tray") + [NEWEST, DOWN]:
            most = plain.most_kept(machine)
            base = (0, ())
            for turn in range(4):
                lots = [[(turn * 3 + at + 40 * one, chance.randrange(machine.commands)) for at in range(3)]
                        for one in range(2)]
                standings = [taken_all(machine, base, slips) for slips in lots]
                self.assertTrue(all(len(kept) <= 2 * most for _, kept in standings))
                base = merge(machine, base, standings)
                self.assertLessEqual(len(base[1]), 2 * most)

    def test_at_the_limits(self):
        chance = random.Random("merging")
        for machine in (LONG, WIDE_HEAVY, CARDS_AND_STOCKS, plain.WIDE, CARDS):
            slips = [(time, chance.randrange(machine.commands)) for time in chance.sample(range(10 ** 9), 200)]
            lots = [slips[at::4] for at in range(4)]
            found = merge(machine, (1, ()), [taken_all(machine, (1, ()), lot) for lot in lots])
            self.assertEqual(found[0], plain.truth(machine, 1, slips))
            self.assertLessEqual(set(plain.tray(machine, slips)), set(found[1]))

    def test_lists_changed_later(self):
        standings, roads = [(2, ()), (2, ())], [(0, 0), (0, 0)]
        found = merge(SUMS, (0, ()), standings, roads=roads)
        self.assertEqual((standings, roads), ([(2, ()), (2, ())], [(0, 0), (0, 0)]))
        standings.clear()
        roads.clear()
        self.assertEqual(found, (1, ()))

    def test_machines_in_turn(self):
        for _ in range(2):
            told = [merge(machine, (0, ()), [(1, ((4, 0),))] * 1, roads=None) for machine in (SUMS, CARDS)]
            self.assertEqual(told, [(1, ()), (1, ((4, 0),))])


if __name__ == "__main__":
    unittest.main()
