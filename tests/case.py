"""What the tests of several modules have in common."""

import unittest

from lateslips.machines import Machine

NEWEST = Machine(2, [(0, 1), (0, 1)])
SUMS = Machine(1, [(1,), (2,), (0,)])
CARDS = Machine(2, [(1, 0), (0, 2), (2, 1)])
DOWN = Machine(2, [(0, 0), (0, 1), (1, 2)])
FIRST = Machine(2, [(1, 2), (1, 1), (2, 2)])
# Command 0 turns, command 1 ends all.
TURN_AND_END = Machine(2, [(1, 3), (2, 3), (0, 3), (3, 3)])
# One command, one state.
ONE = Machine(1, [(0,)])

# At the limits: a tray machine whose longest stuck rows have 9 commands,
LONG = Machine(5, [
    (0, 0, 0, 0, 9), (0, 0, 0, 0, 9), (0, 0, 0, 1, 9), (0, 0, 1, 2, 9), (0, 0, 2, 3, 9),
    (0, 0, 3, 4, 9), (0, 0, 4, 5, 9), (1, 0, 5, 6, 9), (2, 0, 6, 7, 9), (3, 0, 7, 8, 9),
])
# a heavy one with cards ahead of two stocks, and a heavy one with 96 kernels.
CARDS_AND_STOCKS = Machine(
    5, [(1, 1, 0, 0, 0), (2, 0, 1, 1, 1), (0, 2, 2, 2, 2)]
    + [(s, s, max(s - 1, 3), s, s) for s in range(3, 7)] + [(s, s, s, max(s - 1, 7), s) for s in range(7, 10)]
)
WIDE_HEAVY = Machine(5, [
    (0, 1, 0, 0, 0), (1, 0, 0, 1, 1), (2, 1, 2, 2, 2), (9, 3, 3, 3, 3), (4, 4, 4, 4, 9),
    (3, 5, 5, 5, 5), (6, 6, 6, 6, 7), (7, 7, 7, 7, 4), (8, 8, 8, 9, 8), (9, 9, 9, 9, 9),
])

NO_COMMANDS = (True, False, None, -1, 2, "0", 0.0, (0,), [0])
NO_ROWS = ((None, 0), ("0", 0), ({0: 1}, 0), ([0, True], 1), ((0, 1, 2), 2), ([False], 0), ([0, -1], 1), ([None], 0))
NO_SLIPS = (
    None, 0, "01", (0,), (0, 1, 0), [0, 1], (0, 2), (-1, 0), (0, -1), (True, 0), (0, True), (False, 0), (0, False),
    (0.0, 0), (0, None), ((0,), 0), (),
)
# Values that are no heaps of a machine with two commands, and where they are wrong.
NO_HEAPS = (
    (None, 0), (0, 0), ("", 0), ({(0, 0): 1}, 0), ([(5, 0), (3, 1), (5, 1)], 2), ([(5, 0), (5, 0)], 1),
    ([(5, 0), [3, 1]], 1), ([(0, 2)], 0), (((0, 0), (1, True)), 1), (((True, 0),), 0), (((2, 0), (False, 0)), 1),
    (((2, 0), None), 1),
)


class Case(unittest.TestCase):
    def fails(self, error, at, call, *arguments, **named):
        with self.assertRaises(error) as caught:
            call(*arguments, **named)
        self.assertIs(type(caught.exception), error)
        self.assertEqual(caught.exception.at, at)
        self.assertIs(type(caught.exception.at), int)

    def by_name_alone(self, call, *arguments):
        with self.assertRaises(TypeError):
            call(*arguments)


# Values that are no standings of NEWEST.
NO_STANDINGS = (
    None, 0, "01", (), (0,), [0, ()], (0, []), (0, (), ()), (0, None), (None, ()), (2, ()), (-1, ()), (True, ()),
    (False, ()), (0.0, ()), ((0,), ()), (0, ((4, 1),)), (1, ((4, 1), (5, 0))), (1, ((5, 1), (4, 1))), (1, ((4, 1), (4, 1))),
    (0, ((4, 1), (4, 0))), (1, ([4, 1],)), (1, [(4, 1)]), (1, ((4, True),)), (1, ((True, 1),)), (1, ((4, 2),)),
    (1, ((4, 1), None)), (1, ((4, 1, 0),)), (1, (4, 1)), (0, {}),
)
