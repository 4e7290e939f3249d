import itertools
import random
import unittest

from lateslips.errors import Blind, InvalidSlip, Refused
from lateslips.machines import Machine
from lateslips.store import Store
from tests import plain
from tests.case import (
    CARDS, CARDS_AND_STOCKS, Case, DOWN, FIRST, LONG, NEWEST, NO_HEAPS, NO_SLIPS, ONE, SUMS, TURN_AND_END, WIDE_HEAVY,
)


def sighted():
    return (
        plain.some_of_kind(8, "store", "tray") + plain.some_of_kind(5, "store", "heavy")
        + [NEWEST, SUMS, CARDS, DOWN, TURN_AND_END, ONE]
    )


class Model:
    """A store that has all slips, and its kept ones by plain reckoning."""

    def __init__(self, machine, start):
        self.machine, self.start = machine, start
        self.heap, self.kept, self.before = (), (), []

    def receive(self, slip):
        self.heap += (slip,)
        self.kept = plain.tray(self.machine, self.kept + (slip,))

    def deed(self):
        self.before.append((self.heap, self.kept))

    def come_all(self, slips):
        self.deed()
        for slip in slips:
            self.receive(slip)

    def meet(self, other):
        self.deed()
        self.heap += other.heap
        self.kept = plain.tray(self.machine, self.kept + other.kept)

    def undo(self):
        if not self.before:
            return False
        self.heap, self.kept = self.before.pop()
        return True

    def shows(self):
        now = plain.truth(self.machine, self.start, self.heap)
        return (now, self.kept, len(self.heap), len(self.before))


def shows(store):
    return (store.now(), store.kept(), store.count(), len(store))


class StoreCase(Case):
    def agrees(self, store, model):
        self.assertEqual(shows(store), model.shows())
        tray = set(plain.tray(model.machine, model.heap))
        self.assertTrue(tray <= set(store.kept()) <= set(model.heap))

    def unchanged(self, store, error, at, call, *arguments, **named):
        """A deed, or a question, that is refused and changes nothing."""
        before = shows(store)
        self.fails(error, at, call, *arguments, **named)
        self.assertEqual(shows(store), before)


class NewTest(StoreCase):
    def test_attributes(self):
        for machine in sighted():
            for start in range(machine.states):
                store = Store(machine, start)
                self.assertEqual((store.machine, store.start), (machine, start))
                self.assertEqual(shows(store), (start, (), 0, 0))
                self.assertIs(store.undo(), False)
        self.assertEqual(Store(machine=SUMS, state=2).now(), 2)

    def test_which_error_goes_first(self):
        for value in plain.NO_NUMBERS + (2, 10 ** 20):
            self.fails(Refused, 0, Store, NEWEST, value)
        for value in (0, 2, None, True, 7):
            self.fails(Blind, 0, Store, FIRST, value)

    def test_equal_to_no_value_of_another_kind(self):
        store = Store(NEWEST, 0)
        for other in (NEWEST, 0, (), None, [], False, (NEWEST, 0), Store):
            self.assertFalse(store == other)
            self.assertTrue(store != other)
        self.assertTrue(store == store)


class ComeTest(StoreCase):
    def test_in_any_order(self):
        for machine in sighted():
            for heap in plain.heaps(machine.commands, (1, 4, 6)):
                for slips in itertools.permutations(heap):
                    store, model = Store(machine, machine.states - 1), Model(machine, machine.states - 1)
                    for slip in slips:
                        self.assertIsNone(store.come(slip))
                        model.come_all([slip])
                    self.agrees(store, model)

    def test_few_slips_in_a_tray_machine(self):
        chance = random.Random("few slips")
        for machine in plain.some_of_kind(12, "few slips", "tray") + [NEWEST, DOWN, SUMS]:
            store = Store(machine, 0)
            for time in chance.sample(range(60), 40):
                store.come((time, chance.randrange(machine.commands)))
                self.assertLessEqual(len(store.kept()), plain.most_kept(machine))

    def test_refused(self):
        store = Store(NEWEST, 0)
        store.come((4, 1))
        for slip in NO_SLIPS:
            self.unchanged(store, InvalidSlip, 0, store.come, slip)
        for slip in ((4, 0), (4, 1)):
            self.unchanged(store, Refused, 1, store.come, slip)
        self.unchanged(store, Refused, 1, store.come, slip=(4, 1))
        self.assertIs(store.undo(), True)
        self.assertIs(store.undo(), False)

    def test_a_time_that_is_kept_no_more(self):
        # Only what is kept can be looked through.
        store = Store(NEWEST, 0)
        store.come(slip=(4, 1))
        store.come((6, 0))
        store.come((4, 1))
        self.assertEqual(shows(store), (0, ((6, 0),), 3, 3))


class ComeAllTest(StoreCase):
    def test_as_one_deed(self):
        for machine in sighted():
            for heap in plain.heaps(machine.commands, (0, 3, 5)):
                for slips in itertools.permutations(heap):
                    store, model = Store(machine, 0), Model(machine, 0)
                    self.assertIsNone(store.come_all(list(slips)))
                    model.come_all(slips)
                    self.agrees(store, model)
                    self.assertEqual(len(store), 1)
                    self.assertIs(store.undo(), True)
                    self.assertEqual(shows(store), (0, (), 0, 0))

    def test_no_slips(self):
        store = Store(SUMS, 1)
        self.assertIsNone(store.come_all(()))
        self.assertEqual(shows(store), (1, (), 0, 1))
        self.assertIsNone(store.come_all(slips=[]))
        self.assertEqual(shows(store), (1, (), 0, 2))
        self.assertIs(store.undo(), True)
        self.assertEqual(len(store), 1)

    def test_what_is_no_heap(self):
        store = Store(NEWEST, 0)
        store.come((5, 1))
        for value, at in NO_HEAPS:
            self.unchanged(store, InvalidSlip, at, store.come_all, value)
        # What is no slip goes ahead of a time that is kept.
        self.unchanged(store, InvalidSlip, 1, store.come_all, [(5, 1), (6, 2)])

    def test_a_time_that_is_kept_when_its_turn_comes(self):
        store = Store(NEWEST, 0)
        store.come((5, 1))
        for slips in ([(5, 0)], [(3, 0), (5, 1)], [(5, 1), (7, 0)], ((1, 0), (2, 1), (5, 0), (3, 0))):
            self.unchanged(store, Refused, 1, store.come_all, slips)
        # Behind the slip of time 7 the one of time 5 is not kept.
        self.assertIsNone(store.come_all([(7, 0), (5, 1)]))
        self.assertEqual(shows(store), (0, ((7, 0),), 3, 2))
        self.assertIs(store.undo(), True)
        self.assertEqual(shows(store), (1, ((5, 1),), 1, 1))

    def test_slips_stay_as_they_are(self):
        store = Store(NEWEST, 0)
        slips = [(7, 0), (5, 1)]
        store.come_all(slips)
        self.assertEqual(slips, [(7, 0), (5, 1)])
        slips.clear()
        self.assertEqual(shows(store), (0, ((7, 0),), 2, 1))


class MeetTest(StoreCase):
    def test_all_small_ones(self):
        for machine in sighted():
            heaps = list(plain.heaps(machine.commands, (1, 4)))
            others = list(plain.heaps(machine.commands, (2, 5)))
            for one, other in itertools.product(heaps, others):
                store, model = Store(machine, 0), Model(machine, 0)
                beside, pattern = Store(machine, 0), Model(machine, 0)
                store.come_all(one)
                model.come_all(one)
                beside.come_all(other[::-1])
                pattern.come_all(other[::-1])
                self.assertIsNone(store.meet(beside))
                model.meet(pattern)
                self.agrees(store, model)
                self.agrees(beside, pattern)
                self.assertIs(store.undo(), True)
                model.undo()
                self.agrees(store, model)

    def test_refused(self):
        store = Store(NEWEST, 0)
        store.come((4, 1))
        for value in (None, 0, (0, ((5, 1),)), NEWEST, Store, [], Store(NEWEST, 1), Store(DOWN, 0), Store(SUMS, 0)):
            self.unchanged(store, Refused, 0, store.meet, value)
        other = Store(NEWEST, 0)
        other.come((4, 1))
        self.unchanged(store, Refused, 1, store.meet, other)
        self.unchanged(store, Refused, 1, store.meet, other=store)
        other.undo()
        other.come((4, 0))
        self.unchanged(store, Refused, 1, store.meet, other)
        self.assertEqual(shows(other), (0, ((4, 0),), 1, 1))

    def test_an_equal_machine_made_anew(self):
        store, other = Store(NEWEST, 1), Store(Machine(2, [[0, 1], [0, 1]]), 1)
        other.come((4, 0))
        store.meet(other)
        self.assertEqual(shows(store), (0, ((4, 0),), 1, 1))

    def test_a_store_that_meets_itself(self):
        store = Store(SUMS, 0)
        store.come_all([(1, 0), (2, 0)])
        # Nothing is kept here, so it cannot be seen that all slips are the same ones.
        self.assertIsNone(store.meet(store))
        self.assertEqual(shows(store), (1, (), 4, 2))
        self.assertIs(store.undo(), True)
        self.assertEqual(shows(store), (2, (), 2, 1))

    def test_several_in_turn(self):
        chance = random.Random("meeting")
        for machine in sighted():
            stores = [(Store(machine, 0), Model(machine, 0)) for _ in range(3)]
            times = chance.sample(range(100), 30)
            for store, model in stores:
                for _ in range(3):
                    slip = (times.pop(), chance.randrange(machine.commands))
                    store.come(slip)
                    model.come_all([slip])
            # The first one meets the second one, goes on, and is met by the third one.
            (one, first), (two, second), (three, third) = stores
            one.meet(two)
            first.meet(second)
            slip = (times.pop(), 0)
            one.come(slip)
            first.come_all([slip])
            three.meet(other=one)
            third.meet(first)
            for store, model in stores:
                self.agrees(store, model)
            while three.undo():
                self.assertIs(third.undo(), True)
                self.agrees(three, third)
            self.assertIs(third.undo(), False)
            self.agrees(one, first)


class AskTest(StoreCase):
    def test_what_would_be(self):
        for machine in sighted():
            for heap in list(plain.heaps(machine.commands, (1, 4, 6)))[::2]:
                for start in range(machine.states):
                    store = Store(machine, start)
                    store.come_all(heap)
                    before = shows(store)
                    for slip in itertools.product((0, 2, 5, 9), range(machine.commands)):
                        wanted = plain.truth(machine, start, heap + (slip,))
                        self.assertEqual(store.would_be(slip), wanted)
                        self.assertIs(store.matters(slip), wanted != store.now())
                    self.assertEqual(shows(store), before)
                    self.assertEqual(store.would_be(slip=(9, 0)), plain.truth(machine, start, heap + ((9, 0),)))

    def test_refused(self):
        store = Store(NEWEST, 0)
        store.come((4, 1))
        for call in (store.would_be, store.matters):
            for slip in NO_SLIPS:
                self.unchanged(store, InvalidSlip, 0, call, slip)
            for slip in ((4, 0), (4, 1)):
                self.unchanged(store, Refused, 1, call, slip)
            self.unchanged(store, Refused, 1, call, slip=(4, 1))


class UndoTest(StoreCase):
    def test_nothing_to_undo(self):
        store = Store(NEWEST, 1)
        self.assertIs(store.undo(), False)
        store.come((1, 0))
        self.assertIs(store.undo(), True)
        self.assertIs(store.undo(), False)
        self.assertEqual(shows(store), (1, (), 0, 0))

    def test_deeds_in_any_order(self):
        chance = random.Random("deeds")
        for machine in sighted():
            store, model = Store(machine, 0), Model(machine, 0)
            times = chance.sample(range(1000), 300)
            for _ in range(40):
                self.some_deed(chance, store, model, times)
                self.agrees(store, model)
            while model.before:
                self.assertIs(store.undo(), True)
                model.undo()
                self.agrees(store, model)
            self.assertIs(store.undo(), False)

    def some_deed(self, chance, store, model, times):
        machine = model.machine
        slips = [(times.pop(), chance.randrange(machine.commands)) for _ in range(chance.randrange(4))]
        what = chance.randrange(4)
        if what == 0 and slips:
            store.come(slips[0])
            model.come_all(slips[:1])
        elif what == 1:
            store.come_all(slips)
            model.come_all(slips)
        elif what == 2:
            other, pattern = Store(machine, 0), Model(machine, 0)
            other.come_all(slips)
            pattern.come_all(slips)
            store.meet(other)
            model.meet(pattern)
        else:
            self.assertIs(store.undo(), model.undo())

    def test_what_was_told_can_be_kept(self):
        store = Store(NEWEST, 1)
        store.come((4, 0))
        kept = store.kept()
        store.come((6, 0))
        store.undo()
        store.undo()
        self.assertEqual((kept, store.kept()), (((4, 0),), ()))


class WithinTest(StoreCase):
    def test_returns_what_work_returns(self):
        store = Store(NEWEST, 0)
        store.come((4, 1))
        before = shows(store)
        found = store.within(lambda inner: (inner is store, inner.come((6, 0)), shows(inner)))
        self.assertEqual(found, (True, None, (0, ((6, 0),), 2, 2)))
        self.assertEqual(shows(store), before)
        told = []
        self.assertIs(store.within(work=lambda inner: told), told)
        self.assertIsNone(store.within(lambda inner: None))

    def test_passes_on_an_error(self):
        store = Store(NEWEST, 0)
        store.come((4, 1))
        before = shows(store)

        def work(inner):
            inner.come((6, 0))
            inner.come((6, 1))

        self.fails(Refused, 1, store.within, work)
        self.assertEqual(shows(store), before)
        for error in (KeyError("x"), ZeroDivisionError(), StopIteration(), KeyboardInterrupt()):
            def fail(inner):
                inner.come_all([(7, 0), (8, 1)])
                raise error

            with self.assertRaises(type(error)) as caught:
                store.within(fail)
            self.assertIs(caught.exception, error)
            self.assertEqual(shows(store), before)

    def test_work_that_undoes(self):
        store = Store(NEWEST, 1)
        store.come((4, 0))

        def work(inner):
            inner.come((6, 0))
            inner.come_all([(1, 0), (2, 1)])
            told = [inner.undo(), inner.undo()]
            inner.come((9, 1))
            return told + [shows(inner)]

        self.assertEqual(store.within(work), [True, True, (1, ((9, 1),), 2, 2)])
        self.assertEqual(shows(store), (0, ((4, 0),), 1, 1))
        self.assertIs(store.undo(), True)
        self.assertEqual(shows(store), (1, (), 0, 0))
        self.assertIs(store.undo(), False)

    def test_work_within_work(self):
        store = Store(SUMS, 0)

        def inner_work(inner):
            inner.come((5, 0))
            return shows(inner)

        def work(inner):
            inner.come((3, 0))
            told = inner.within(inner_work)
            return told, shows(inner)

        self.assertEqual(store.within(work), ((2, (), 2, 2), (1, (), 1, 1)))
        self.assertEqual(shows(store), (0, (), 0, 0))

    def test_two_stores(self):
        one, other = Store(NEWEST, 0), Store(NEWEST, 0)
        other.come((3, 1))

        def work(store):
            store.come((5, 1))
            other.within(lambda beside: beside.come((2, 0)))
            store.meet(other)
            other.come((7, 0))
            return shows(store)

        self.assertEqual(one.within(work), (1, ((5, 1),), 2, 2))
        self.assertEqual(shows(one), (0, (), 0, 0))
        # Deeds of the other store are its own.
        self.assertEqual(shows(other), (0, ((7, 0),), 2, 2))

    def test_any_deeds(self):
        chance = random.Random("within")
        for machine in sighted():
            store = Store(machine, 0)
            slips = [(time, chance.randrange(machine.commands)) for time in chance.sample(range(50), 9)]
            for slip in slips[:3]:
                store.come(slip)
            before = shows(store)

            def work(inner):
                for slip in slips[3:6]:
                    inner.come(slip)
                inner.undo()
                inner.come_all(slips[6:])
                return shows(inner)

            now, _, count, deeds = store.within(work)
            self.assertEqual(now, plain.truth(machine, 0, slips[:5] + slips[6:]))
            self.assertEqual((count, deeds), (8, 6))
            self.assertEqual(shows(store), before)
            store.come(slips[3])
            store.undo()
            self.assertEqual(shows(store), before)


class WideTest(StoreCase):
    def test_at_the_limits(self):
        chance = random.Random("wide stores")
        for machine in (LONG, WIDE_HEAVY, CARDS_AND_STOCKS, plain.WIDE):
            one, other = Store(machine, 9), Store(machine, 9)
            slips = [(time, chance.randrange(5)) for time in chance.sample(range(10 ** 12), 200)]
            one.come_all(slips[:100])
            for slip in slips[100:]:
                other.come(slip)
            self.assertEqual(one.now(), plain.truth(machine, 9, slips[:100]))
            self.assertEqual(other.now(), plain.truth(machine, 9, slips[100:]))
            slip = (10 ** 13, 3)
            self.assertEqual(one.would_be(slip), plain.truth(machine, 9, slips[:100] + [slip]))
            one.meet(other)
            self.assertEqual((one.now(), one.count()), (plain.truth(machine, 9, slips), 200))
            self.assertTrue(set(plain.tray(machine, slips)) <= set(one.kept()) <= set(slips))
            if machine == LONG:
                self.assertLessEqual(len(one.kept()), 9)

    def test_two_stores_in_turn(self):
        one, other = Store(NEWEST, 0), Store(SUMS, 0)
        for time in range(5):
            one.come((time, time & 1))
            other.come((time, 0))
            self.assertEqual((one.now(), other.now()), (time & 1, (time + 1) % 3))
            self.assertEqual((one.kept(), other.kept()), (((time, time & 1),), ()))


if __name__ == "__main__":
    unittest.main()
