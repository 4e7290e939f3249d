import unittest

from lateslips.errors import Blind, InvalidQuestion
from lateslips.ladders import count_roots, ladder, recurrence
from lateslips.machines import Machine
from tests import plain

DOWN = Machine(2, [(0, 0), (0, 1), (1, 2)])
FIRST = Machine(2, [(1, 2), (1, 1), (2, 2)])
NO_KERNELS = (None, 0, [0, 0, 0], (0, 0), (0, 0, 0, 0), (0, 1, 1), (0, 1, True), (0, False, 0), (1, 1, 1), "012", ())


def plain_ladder(machine):
    rows = {plain.division(done): row for done, row in plain.effects(machine).items()}
    each = plain.kernels(machine)
    return tuple(
        tuple(each.index(plain.kernel(machine, (command,) + rows[one])) for command in range(machine.commands))
        for one in each
    )


def ways_to(rungs, target):
    """All ways from the kernel of the empty row, the last one, to the target."""
    waiting = [(len(rungs) - 1,)]
    while waiting:
        way = waiting.pop()
        if way[-1] == target:
            yield way
        waiting.extend(way + (ahead,) for ahead in sorted(set(rungs[way[-1]])) if ahead not in way)


def plain_roots(rungs, target):
    most = {}
    for way in ways_to(rungs, target):
        stays = [rungs[number].count(number) for number in way]
        for x in stays:
            most[x] = max(most.get(x, 0), stays.count(x))
    return tuple(sorted(most.items()))


def value_at(factors, z):
    """z ** m - c(m - 1) z ** (m - 1) - .. - c(0)."""
    return z ** len(factors) - sum(factor * z ** place for place, factor in enumerate(factors))


def machines():
    return plain.deep_sighted(40, "ladders") + plain.some_sighted(20, "ladders")


class LadderTest(unittest.TestCase):
    def test_as_shown(self):
        self.assertEqual(ladder(DOWN), ((0, 0), (0, 1), (1, 2)))

    def test_against_plain_reckoning(self):
        for machine in machines() + list(plain.some_machines(60, "ladders")):
            self.assertEqual(ladder(machine=machine), plain_ladder(machine))

    def test_blind_machines_have_one(self):
        self.assertEqual(ladder(FIRST), plain_ladder(FIRST))

    def test_not_blind_exactly_if_kernels_only_grow(self):
        for machine in machines() + list(plain.some_machines(100, "growing")):
            each = plain.kernels(machine)
            grows = all(
                plain.within(each[number], each[ahead])
                for number, entry in enumerate(ladder(machine)) for ahead in entry
            )
            self.assertEqual(plain.is_blind(machine), not grows)

    def test_no_row_climbs_more_than_n_less_r(self):
        for machine in machines():
            rungs = ladder(machine)
            longest = max(len(way) for target in range(len(rungs)) for way in ways_to(rungs, target))
            self.assertLessEqual(longest - 1, plain.most_kept(machine))


class RootsTest(unittest.TestCase):
    def test_as_shown(self):
        self.assertEqual(count_roots(DOWN, (0, 0, 0)), ((1, 2), (2, 1)))
        self.assertEqual(recurrence(DOWN, (0, 0, 2)), (-1, 2))

    def test_against_all_ways(self):
        for machine in machines():
            rungs = plain_ladder(machine)
            for number, value in enumerate(plain.kernels(machine)):
                self.assertEqual(count_roots(machine=machine, kernel=value), plain_roots(rungs, number))

    def test_recurrence_is_the_product(self):
        for machine in machines():
            for value in plain.kernels(machine):
                factors = recurrence(machine=machine, kernel=value)
                roots = count_roots(machine, value)
                self.assertIs(type(factors), tuple)
                self.assertEqual(len(factors), sum(d for _, d in roots))
                for z in range(-40, 41):
                    wanted = 1
                    for x, d in roots:
                        wanted *= (z - x) ** d
                    self.assertEqual(value_at(factors, z), wanted)

    def test_counts_keep_the_recurrence(self):
        for machine in plain.deep_sighted(15, "recurrence", commands=(2, 2), states=(2, 4)):
            longest = 9
            for value in plain.kernels(machine):
                factors = recurrence(machine, value)
                counts = [0] * (longest + 1)
                for row in plain.rows(machine.commands, longest):
                    counts[len(row)] += plain.kernel(machine, row) == value
                for start in range(longest + 1 - len(factors)):
                    wanted = sum(factor * counts[start + place] for place, factor in enumerate(factors))
                    self.assertEqual(counts[start + len(factors)], wanted)

    def test_a_kernel_that_no_long_row_has(self):
        low = Machine(1, [(0,), (0,), (1,)])
        self.assertEqual(count_roots(low, (0, 1, 2)), ((0, 1),))
        self.assertEqual(count_roots(low, (0, 0, 2)), ((0, 2),))
        self.assertEqual(count_roots(low, (0, 0, 0)), ((0, 2), (1, 1)))
        self.assertEqual(recurrence(low, (0, 0, 2)), (0, 0))
        self.assertEqual(recurrence(low, (0, 0, 0)), (0, 0, 1))

    def test_one_to_one(self):
        self.assertEqual(count_roots(Machine(2, [(0, 1), (1, 0)]), (0, 1)), ((2, 1),))
        self.assertEqual(recurrence(Machine(2, [(0, 1), (1, 0)]), (0, 1)), (2,))

    def test_values_that_are_no_kernels(self):
        for call in (count_roots, recurrence):
            for value in NO_KERNELS:
                with self.assertRaises(InvalidQuestion) as caught:
                    call(DOWN, value)
                self.assertEqual(caught.exception.at, 1)

    def test_blind_goes_first(self):
        for call in (count_roots, recurrence):
            for value in (None, (0, 1, 2)):
                with self.assertRaises(Blind) as caught:
                    call(FIRST, value)
                self.assertEqual(caught.exception.at, 0)

    def test_machines_in_turn(self):
        turn = Machine(1, [(1,), (2,), (0,)])
        for _ in range(2):
            self.assertEqual((ladder(turn), count_roots(turn, (0, 1, 2))), (((0,),), ((1, 1),)))
            self.assertEqual(count_roots(DOWN, (0, 1, 2)), ((1, 1),))


if __name__ == "__main__":
    unittest.main()
