import itertools
import unittest

from lateslips.changes import is_blind
from lateslips.machines import Machine
from lateslips.notes import fault_pairs, is_note, least_note
from tests import plain

FIRST = Machine(2, [(1, 2), (1, 1), (2, 2)])
NEWEST = Machine(2, [(0, 1), (0, 1)])


def pairs_of(machine):
    each = [plain.ends(machine, (command,)) for command in range(machine.commands)]
    return tuple(sorted({
        pair for change in each for done in plain.effects(machine) for pair in plain.has_fault(machine, change, done)
    }))


def machines():
    yield from plain.some_machines(120, "notes")
    yield from plain.some_sighted(20, "notes")
    # Few pairs are at fault where the commands hardly do anything.
    yield from plain.some_machines(60, "more notes", commands=(1, 2), states=(4, 5))


class FaultPairsTest(unittest.TestCase):
    def test_as_shown(self):
        self.assertEqual((fault_pairs(FIRST), least_note(FIRST)), (((0, 1), (0, 2)), (0, 1, 1)))

    def test_against_plain_reckoning(self):
        for machine in machines():
            self.assertEqual(fault_pairs(machine=machine), pairs_of(machine))

    def test_every_machine_of_three_states(self):
        for machine in plain.every_machine(2, 3):
            self.assertEqual(fault_pairs(machine), pairs_of(machine))

    def test_none_if_not_blind(self):
        self.assertEqual(fault_pairs(NEWEST), ())
        self.assertEqual(fault_pairs(plain.WIDE), ())


class NoteTest(unittest.TestCase):
    def test_which_values_are_notes(self):
        for machine in plain.some_machines(40, "which notes", states=(1, 4)):
            pairs = pairs_of(machine)
            for value in itertools.product(range(3), repeat=machine.states):
                self.assertEqual(is_note(machine, value), all(value[s] != value[t] for s, t in pairs))

    def test_values_that_are_none(self):
        self.assertIs(is_note(machine=FIRST, value=(10 ** 20, 0, 0)), True)
        for value in (None, 0, [1, 0, 0], (1, 0), (1, 0, 0, 0), (1, 0, False), (True, 0, 0), (1, 0, -1), (1, 0, None),
                      (1, 0, 0.0), ("1", "0", "0"), "100", (0, 0, 0), (0, 0, 1)):
            self.assertIs(is_note(FIRST, value), False, value)

    def test_notes_tell_what_should_stand(self):
        """A note is a note exactly if late slips are told rightly by it, by now and the slips since."""
        for machine in plain.some_machines(30, "telling notes", commands=(1, 2), states=(2, 3)):
            for value in itertools.product(range(machine.states), repeat=machine.states):
                self.assertEqual(is_note(machine, value), self.tells(machine, value))

    def tells(self, machine, note):
        for done in plain.effects(machine):
            for command in range(machine.commands):
                change = plain.ends(machine, (command,))
                told = {}
                for state in range(machine.states):
                    true = done[change[state]]
                    if told.setdefault((note[state], done[state]), true) != true:
                        return False
        return True


class LeastNoteTest(unittest.TestCase):
    def test_the_first_of_the_least(self):
        for machine in machines():
            if machine.states < 5:
                self.assertEqual(least_note(machine=machine), self.first(machine))

    def first(self, machine):
        pairs = pairs_of(machine)
        notes = [
            value for value in itertools.product(range(machine.states), repeat=machine.states)
            if all(value[s] != value[t] for s, t in pairs)
        ]
        return min(notes, key=lambda value: (len(set(value)), value))

    def test_five_states(self):
        seen = set()
        for machine in plain.some_machines(60, "five", commands=(1, 2), states=(5, 5)):
            pairs = pairs_of(machine)
            if pairs not in seen:
                seen.add(pairs)
                self.assertEqual(least_note(machine), self.first(machine))
        self.assertGreater(len(seen), 5)

    def test_fewer_numbers_go_ahead_of_lesser_ones(self):
        # In each of these the first tuple that is a note at all needs a number more.
        for commands, steps in (
            (3, ((0, 2, 0), (0, 1, 1), (2, 2, 2), (3, 2, 3), (4, 0, 3))),
            (2, ((0, 0), (2, 1), (2, 2), (3, 1), (1, 2))),
            (2, ((3, 0), (1, 4), (1, 2), (3, 1), (4, 4))),
            (2, ((0, 0), (1, 1), (3, 1), (1, 3), (4, 3), (5, 5))),
        ):
            machine = Machine(commands, steps)
            self.assertEqual(least_note(machine), self.first(machine))
            self.assertEqual(len(set(least_note(machine))), 2)

    def test_one_number_exactly_if_not_blind(self):
        for machine in machines():
            self.assertEqual(len(set(least_note(machine))) == 1, not is_blind(machine))

    def test_it_is_a_note(self):
        for machine in machines():
            self.assertTrue(is_note(machine, least_note(machine)))

    def test_ten_states_each_two_at_fault(self):
        turn = [(state + 1) % 10 for state in range(10)]
        swap = [1, 0] + list(range(2, 10))
        join = [0, 0] + list(range(2, 10))
        machine = Machine(3, list(zip(turn, swap, join)))
        self.assertEqual(least_note(machine), tuple(range(10)))
        self.assertEqual(len(fault_pairs(machine)), 45)

    def test_ten_states_two_halves(self):
        # A state from 0 to 4 and one from 5 to 9 are brought together by command 0, not behind command 1.
        steps = [(state, state) for state in range(5)] + [(0, 6)] * 5
        machine = Machine(2, steps)
        self.assertEqual(fault_pairs(machine), pairs_of(machine))
        self.assertTrue(is_note(machine, least_note(machine)))


if __name__ == "__main__":
    unittest.main()
