import itertools
import random
import unittest

from lateslips.errors import InvalidSlip, Refused
from lateslips.harmless import firm_tray
from lateslips.machines import Machine
from lateslips.stories import heap_of_story, receive_again, tell_story
from tests import plain
from tests.case import CARDS, Case, DOWN, FIRST, LONG, NEWEST, NO_HEAPS, NO_SLIPS, ONE, SUMS, TURN_AND_END, WIDE_HEAVY

NO_STATES = plain.NO_NUMBERS + (2, 10 ** 20)
# Values that are no stories of a machine with two commands, and where they are wrong.
NO_STORIES = (
    (None, 0), (0, 0), ("", 0), ({(0, 0): 1}, 0), ([(5, 0), (3, 1), (5, 1)], 2), ([(5, 0), (5, 0), (5, 1)], 2),
    ([(5, 0), [3, 1]], 1), ([(0, 2)], 0), (((0, 0), (1, True)), 1), (((True, 0),), 0), (((2, 0), (False, 0)), 1),
    (((2, 0), (2, 0), None), 2), ([(1, 1), (0, 0), (1, 1), (1, 0), None], 3), ([(1, 1), (1, True)], 1),
)
# In this blind machine what is kept need not lead anything to what stands.
BLIND = Machine(3, [(0, 1, 0), (1, 1, 1), (3, 2, 2), (3, 3, 0)])
REFUSED = [(3, 1), (4, 2), (2, 2), (5, 0), (6, 2), (1, 0)]


def sighted():
    return (
        plain.some_of_kind(6, "stories", "lasting", plain.kind_again)
        + plain.some_of_kind(6, "stories", "counting", plain.kind_again)
        + [NEWEST, SUMS, CARDS, DOWN, TURN_AND_END, ONE]
    )


def stories(machine, times, longest):
    """All stories of at most so many entries with these times; each time always with one command."""
    for commands in itertools.product(range(machine.commands), repeat=len(times)):
        slips = tuple(zip(times, commands))
        for length in range(longest + 1):
            yield from itertools.product(slips, repeat=length)


def plain_again(machine, now, kept, slip):
    """The pair that is told, None if there is no way back."""
    if slip in kept:
        return (now, kept)
    ways = [state for state in range(machine.states) if plain.truth(machine, state, kept) == now]
    if not ways:
        return None
    longer = tuple(sorted(kept + (slip,)))
    return (plain.truth(machine, ways[0], longer), plain.held(machine, longer, plain.is_harmless))


def plain_story(machine, state, story):
    pair = (state, ())
    for slip in story:
        if pair is not None:
            pair = plain_again(machine, pair[0], pair[1], slip)
    return pair


class HeapTest(Case):
    def test_each_slip_once(self):
        for story in stories(CARDS, (0, 2, 5), 4):
            wanted = tuple(sorted(set(story)))
            self.assertEqual(heap_of_story(CARDS, story), wanted)
            self.assertEqual(heap_of_story(machine=FIRST, story=list(story)), wanted)

    def test_values_that_are_none(self):
        for story, at in NO_STORIES:
            for machine in (NEWEST, FIRST):
                self.fails(InvalidSlip, at, heap_of_story, machine, story)
        for slip in NO_SLIPS:
            self.fails(InvalidSlip, 2, heap_of_story, NEWEST, [(9, 1), (9, 1), slip])

    def test_a_story_changed_later(self):
        story = [(5, 0), (1, 1), (5, 0)]
        found = heap_of_story(NEWEST, story)
        self.assertEqual(story, [(5, 0), (1, 1), (5, 0)])
        story.clear()
        self.assertEqual(found, ((1, 1), (5, 0)))


class ReceiveTest(Case):
    def test_all_small_heaps(self):
        for machine in sighted() + [FIRST, BLIND]:
            for kept in plain.heaps(machine.commands, (1, 4)):
                for now in range(machine.states):
                    for slip in itertools.product((0, 1, 4, 6), range(machine.commands)):
                        self.compare(machine, now, kept, slip)

    def compare(self, machine, now, kept, slip):
        shuffled = list(kept[::-1])
        if slip not in kept and slip[0] in [time for time, _ in kept]:
            self.fails(Refused, 1, receive_again, machine, now, shuffled, slip)
        elif plain_again(machine, now, kept, slip) is None:
            self.fails(Refused, 2, receive_again, machine, now, shuffled, slip)
        else:
            wanted = plain_again(machine, now, kept, slip)
            self.assertEqual(receive_again(machine, now, shuffled, slip), wanted)
            self.assertEqual(receive_again(machine=machine, now=now, kept=kept, slip=slip), wanted)

    def test_a_slip_that_is_kept(self):
        self.assertEqual(receive_again(NEWEST, 1, [(4, 1), (3, 0)], (3, 0)), (1, ((3, 0), (4, 1))))
        # There is no way back here, but none is needed.
        self.assertEqual(receive_again(NEWEST, 0, [(4, 1)], (4, 1)), (0, ((4, 1),)))
        self.fails(Refused, 2, receive_again, NEWEST, 0, [(4, 1)], (5, 1))

    def test_which_error_goes_first(self):
        for now in NO_STATES:
            self.fails(Refused, 0, receive_again, NEWEST, now, None, None)
        for value, at in NO_HEAPS:
            self.fails(InvalidSlip, at, receive_again, NEWEST, 0, value, None)
        for slip in NO_SLIPS:
            self.fails(InvalidSlip, 0, receive_again, NEWEST, 0, [(0, 1), (3, 1), (1, 0)], slip)
        self.fails(Refused, 1, receive_again, NEWEST, 0, [(4, 1), (3, 1)], (4, 0))
        self.fails(Refused, 1, receive_again, machine=NEWEST, now=1, kept=[(4, 1), (3, 1)], slip=(3, 0))

    def test_a_heap_changed_later(self):
        kept = [(4, 1)]
        found = receive_again(NEWEST, 1, kept, (4, 1))
        kept.append((5, 0))
        self.assertEqual(found, (1, ((4, 1),)))


class TellTest(Case):
    def test_as_shown(self):
        self.assertEqual(tell_story(NEWEST, 0, [(4, 1), (2, 0), (4, 1), (6, 0), (4, 1)]), (0, ((6, 0),)))

    def test_all_short_stories(self):
        for machine in sighted():
            for story in stories(machine, (0, 3), 3):
                heap = tuple(sorted(set(story)))
                for state in range(machine.states):
                    now, kept = tell_story(machine, state, list(story))
                    self.assertEqual((now, kept), plain_story(machine, state, story))
                    self.assertEqual(now, plain.truth(machine, state, heap))
                    self.assertLessEqual(set(kept), set(heap))
                    self.assertLessEqual(set(firm_tray(machine, heap)), set(kept))

    def test_longer_stories(self):
        chance = random.Random("longer")
        for machine in sighted():
            for _ in range(20):
                slips = [(time, chance.randrange(machine.commands)) for time in range(6)]
                story = [chance.choice(slips) for _ in range(14)]
                now, kept = tell_story(machine=machine, state=0, story=story)
                self.assertEqual(now, plain.truth(machine, 0, set(story)))
                self.assertEqual((now, kept), plain_story(machine, 0, story))

    def test_blind_machines(self):
        self.assertIsNone(plain_story(BLIND, 2, REFUSED))
        self.assertIsNotNone(plain_story(BLIND, 2, REFUSED[:-1]))
        self.fails(Refused, 2, tell_story, BLIND, 2, REFUSED)
        self.fails(Refused, 2, tell_story, machine=BLIND, state=2, story=tuple(REFUSED + REFUSED))
        for story in stories(BLIND, (0, 3, 4), 3):
            for state in range(4):
                wanted = plain_story(BLIND, state, story)
                if wanted is None:
                    self.fails(Refused, 2, tell_story, BLIND, state, story)
                else:
                    self.assertEqual(tell_story(BLIND, state, story), wanted)

    def test_which_error_goes_first(self):
        for state in NO_STATES:
            self.fails(Refused, 0, tell_story, NEWEST, state, None)
        for story, at in NO_STORIES:
            self.fails(InvalidSlip, at, tell_story, NEWEST, 0, story)
        self.fails(InvalidSlip, 6, tell_story, BLIND, 2, REFUSED + [(4, 0)])

    def test_lasting_machines_keep_few(self):
        for machine in plain.some_of_kind(12, "few kept", "lasting", plain.kind_again) + [NEWEST, DOWN]:
            chance = random.Random("few kept")
            for _ in range(20):
                story = [(time, time * time % machine.commands) for time in (chance.randrange(9) for _ in range(12))]
                self.assertLessEqual(len(tell_story(machine, 0, story)[1]), plain.most_kept(machine))

    def test_empty(self):
        self.assertEqual(tell_story(NEWEST, 1, []), (1, ()))
        self.assertEqual(tell_story(FIRST, 2, ()), (2, ()))
        self.assertEqual(heap_of_story(ONE, []), ())
        self.assertEqual(tell_story(ONE, 0, [(3, 0), (3, 0)]), (0, ()))

    def test_at_the_limits(self):
        chance = random.Random("stories")
        for machine in (LONG, WIDE_HEAVY, CARDS, SUMS):
            slips = [(3 * time, chance.randrange(machine.commands)) for time in range(200)]
            story = slips + [chance.choice(slips) for _ in range(1000)]
            chance.shuffle(story)
            now, kept = tell_story(machine, 1, story)
            self.assertEqual(now, plain.truth(machine, 1, slips))
            self.assertLessEqual(set(firm_tray(machine, slips)), set(kept))

    def test_machines_in_turn(self):
        story = [(4, 0), (3, 0), (4, 0)]
        for _ in range(2):
            self.assertEqual([tell_story(machine, 0, story)[0] for machine in (SUMS, CARDS, NEWEST)], [2, 0, 0])


if __name__ == "__main__":
    unittest.main()
