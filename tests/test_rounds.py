import unittest

from lateslips.errors import Blind
from lateslips.machines import Machine
from lateslips.rounds import rounds_needed, slow_rounds
from tests import plain

DOWN = Machine(2, [(0, 0), (0, 1), (1, 2)])


def followed(one, other):
    return tuple(other[state] for state in one)


def effects_of_rounds(machine):
    """The effects of all rounds: all rows, with the commands that stand in them."""
    each = [plain.ends(machine, (command,)) for command in range(machine.commands)]
    waiting = [(tuple(range(machine.states)), frozenset())]
    seen = set(waiting)
    while waiting:
        done, held = waiting.pop()
        for command, change in enumerate(each):
            longer = (followed(done, change), held | {command})
            if longer not in seen:
                seen.add(longer)
                waiting.append(longer)
    return {done for done, held in seen if len(held) == machine.commands}


def needed(machine):
    """The least number of rounds such that all that are so many have the greatest kernel."""
    once = effects_of_rounds(machine)
    many, number = {tuple(range(machine.states))}, 0
    while any(plain.division(done) != plain.greatest(machine) for done in many):
        many = {followed(one, other) for one in many for other in once}
        number += 1
    return number


class RoundsTest(unittest.TestCase):
    def test_as_shown(self):
        self.assertEqual((rounds_needed(DOWN), slow_rounds(Machine(1, [(0,), (0,)]))), (2, ()))

    def test_blind_machines(self):
        for call in (rounds_needed, slow_rounds):
            with self.assertRaises(Blind) as caught:
                call(Machine(2, [(1, 2), (1, 1), (2, 2)]))
            self.assertEqual(caught.exception.at, 0)

    def test_none_needed(self):
        turn = Machine(2, [(1, 2), (2, 0), (0, 1)])
        self.assertEqual(rounds_needed(machine=turn), 0)
        self.assertIsNone(slow_rounds(machine=turn))

    def test_against_plain_reckoning(self):
        found = set()
        for machine in plain.deep_sighted(80, "rounds") + plain.some_sighted(30, "rounds") + plain.all_sighted(2, 3):
            number = rounds_needed(machine)
            found.add(number)
            self.assertEqual(number, needed(machine))
            self.assertLessEqual(number, plain.most_kept(machine))
            self.check_slow(machine, number)
        self.assertGreater(len(found), 3)

    def check_slow(self, machine, number):
        slow = slow_rounds(machine)
        if number == 0:
            self.assertIsNone(slow)
            return
        self.assertIs(type(slow), tuple)
        self.assertEqual(len(slow), number - 1)
        for row in slow:
            self.assertIs(type(row), tuple)
            self.assertEqual(set(row), set(range(machine.commands)))
        whole = tuple(command for row in slow for command in row)
        self.assertNotEqual(plain.kernel(machine, whole), plain.greatest(machine))

    def test_many_rounds(self):
        for states in range(2, 11):
            low = Machine(1, [(max(state - 1, 0),) for state in range(states)])
            self.assertEqual(rounds_needed(low), states - 1)
            self.assertEqual(slow_rounds(low), ((0,),) * (states - 2))

    def test_many_commands(self):
        steps = [[max(state - 1, 0)] + [state] * 4 for state in range(10)]
        self.assertEqual(rounds_needed(Machine(5, steps)), 9)
        self.check_slow(Machine(5, steps), 9)
        self.assertEqual(rounds_needed(Machine(5, [[max(state - 1, 0)] * 5 for state in range(10)])), 2)

    def test_the_widest(self):
        self.check_slow(plain.WIDE, rounds_needed(plain.WIDE))

    def test_machines_in_turn(self):
        for _ in range(2):
            self.assertEqual([rounds_needed(DOWN), rounds_needed(Machine(1, [(0,)]))], [2, 0])


if __name__ == "__main__":
    unittest.main()
