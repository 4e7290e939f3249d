import random
import unittest

from lateslips.desk import Desk
from lateslips.errors import Blind, InvalidCommand, InvalidMachine, InvalidSlip, Refused
from lateslips.machines import Machine
from lateslips.store import Store
from lateslips.verdicts import kind_of
from tests import plain
from tests.case import CARDS, CARDS_AND_STOCKS, Case, DOWN, FIRST, LONG, NEWEST, ONE, SUMS, TURN_AND_END, WIDE_HEAVY

NEWEST_TOLD = "machine 2 2 0 1 0 1"
# Commands that are right, each wherever there is a store.
RIGHT = (
    NEWEST_TOLD, "machine 1 1 0", "come 4 1", "all 4 1", "all 4 1 6 0", "now", "count", "kept", "kind", "matters 4 1",
    "undo",
)
# Figures of other scripts, of which Python holds the first ones to be digits.
OTHER_FIGURES = ("\u0661", "\u0967", "\uff11", "\u00b2", "\u2460", "\u4e00", "\u0be7")


def told(machine):
    """The command that tells a desk a machine."""
    numbers = [machine.commands, machine.states] + [state for entry in machine.steps for state in entry]
    return "machine " + " ".join(map(str, numbers))


def state_of(desk):
    store = desk.store
    if store is None:
        return None
    return (store, store.machine, store.start, store.now(), store.kept(), store.count(), len(store))


def desk_with(machine, *commands):
    desk = Desk()
    for command in (told(machine),) + commands:
        desk.say(command)
    return desk


class DeskCase(Case):
    def invalid(self, desk, command):
        before = state_of(desk)
        with self.assertRaises(InvalidCommand, msg=repr(command)) as caught:
            desk.say(command)
        self.assertIs(type(caught.exception), InvalidCommand)
        self.assertEqual(state_of(desk), before)
        if before is not None:
            self.assertIs(desk.store, before[0])

    def unchanged(self, desk, error, at, command):
        before = state_of(desk)
        self.fails(error, at, desk.say, command)
        self.assertEqual(state_of(desk), before)
        if before is not None:
            self.assertIs(desk.store, before[0])

    def says(self, desk, *pairs):
        for command, answer in pairs:
            found = desk.say(command)
            self.assertEqual((command, found), (command, answer))
            self.assertIs(type(found), str)


class MachineTest(DeskCase):
    def test_a_store_from_state_0(self):
        for machine in list(plain.some_sighted(20, "desk", states=(1, 5))) + [NEWEST, SUMS, CARDS, DOWN, ONE, TURN_AND_END]:
            desk = Desk()
            self.assertIsNone(desk.store)
            self.says(desk, (told(machine), "ok"))
            self.assertIs(type(desk.store), Store)
            self.assertEqual(state_of(desk)[1:], (machine, 0, 0, (), 0, 0))
            self.says(desk, ("kind", kind_of(machine)), ("now", "0"), ("count", "0"), ("kept", "none"), ("undo", "nothing"))

    def test_a_new_store_each_time(self):
        desk = desk_with(NEWEST, "come 4 1")
        before = desk.store
        self.says(desk, ("machine 1 3 1 2 0", "ok"), ("kind", "tray"), ("count", "0"), ("undo", "nothing"), ("come 4 0", "ok"))
        self.assertIsNot(desk.store, before)
        self.assertEqual((before.now(), before.count()), (1, 1))
        self.assertEqual(desk.store.machine, SUMS)

    def test_refused(self):
        for desk in (Desk(), desk_with(NEWEST, "come 4 1")):
            self.unchanged(desk, InvalidMachine, 2, "machine 2 2 2 1 0 1")
            self.unchanged(desk, InvalidMachine, 3, "machine 2 2 0 1 0 2")
            self.unchanged(desk, InvalidMachine, 3, "machine 2 2 0 1 9999 0")
            self.unchanged(desk, InvalidMachine, 2, "machine 1 1 1")
            self.unchanged(desk, Blind, 0, told(FIRST))
            for command in (
                "machine", "machine 1", "machine 1 1", "machine 1 1 0 0", "machine 2 2 0 1 0", "machine 2 2 0 1 0 1 0",
                "machine 0 0", "machine 0 1", "machine 1 0", "machine 0 0 0", "machine 0 1 0", "machine 1 0 0", "machine 0 2 0 0",
                "machine 1 -1 0", "machine -1 -1 0", "machine 1 1 -0", "machine 1 1 00", "machine 01 1 0", "machine 1 1 +0",
                "Machine 1 1 0", "machines 1 1 0", "machine1 1 0", "machine 1 1 0 ", " machine 1 1 0", "machine  1 1 0",
                "machine 1 1\n0", "machine 1 1 0\n", "machine 10000 1 0", "machine 1 1 a", "machine 1 1 0x0", "machine 1 1 0.0",
            ):
                self.invalid(desk, command)

    def test_at_the_limits(self):
        chance = random.Random("desk")
        for machine in (LONG, WIDE_HEAVY, CARDS_AND_STOCKS, plain.WIDE):
            desk = desk_with(machine)
            slips = [(time, chance.randrange(5)) for time in chance.sample(range(10000), 200)]
            self.says(desk, ("all " + " ".join(f"{time} {command}" for time, command in slips), "ok"), ("count", "200"))
            self.says(desk, ("now", str(plain.truth(machine, 0, slips))), ("kind", kind_of(machine)))
            kept = desk.store.kept()
            kept_told = " ".join(f"{time}:{command}" for time, command in kept) or "none"
            self.says(desk, ("kept", kept_told), ("undo", "ok"), ("now", "0"))


class DeedTest(DeskCase):
    def test_a_day(self):
        self.says(
            Desk(), (NEWEST_TOLD, "ok"), ("now", "0"), ("come 4 1", "ok"), ("now", "1"), ("kept", "4:1"), ("matters 2 0", "no"),
            ("matters 6 0", "yes"), ("matters 6 1", "no"), ("come 2 0", "ok"), ("now", "1"), ("count", "2"), ("kept", "4:1"),
            ("all 9 0 9999 1 0 1", "ok"), ("kept", "9999:1"), ("count", "5"), ("undo", "ok"), ("count", "2"), ("undo", "ok"),
            ("undo", "ok"), ("undo", "nothing"), ("kept", "none"), ("count", "0"), ("kind", "tray"),
        )

    def test_several_kept_slips(self):
        desk = desk_with(CARDS, "all 7 1 3 0 5 1")
        self.says(desk, ("kept", "3:0 5:1 7:1"), ("kind", "heavy"), ("come 0 0", "ok"), ("kept", "0:0 3:0 5:1 7:1"))
        self.says(desk, ("count", "4"))

    def test_against_a_store(self):
        chance = random.Random("desk and store")
        for machine in plain.some_sighted(15, "desk and store", states=(1, 5)) + [CARDS, NEWEST]:
            desk, store = desk_with(machine), Store(machine, 0)
            for time in chance.sample(range(10000), 30):
                slip = (time, chance.randrange(machine.commands))
                matters = "yes" if store.matters(slip) else "no"
                self.says(desk, ("matters {} {}".format(*slip), matters))
                if chance.randrange(3):
                    store.come(slip)
                    self.says(desk, ("come {} {}".format(*slip), "ok"))
                else:
                    self.says(desk, ("undo", "ok" if store.undo() else "nothing"))
                kept = " ".join(f"{time}:{command}" for time, command in store.kept()) or "none"
                self.says(desk, ("now", str(store.now())), ("count", str(store.count())), ("kept", kept))

    def test_errors_of_the_store(self):
        desk = desk_with(NEWEST, "come 4 1")
        for command in ("come 5 2", "matters 5 2", "come 4 2", "matters 4 9999"):
            self.unchanged(desk, InvalidSlip, 0, command)
        for command in ("come 4 1", "come 4 0", "matters 4 0", "all 4 0", "all 3 0 4 1", "all 4 1 3 0"):
            self.unchanged(desk, Refused, 1, command)
        self.unchanged(desk, InvalidSlip, 0, "all 5 2")
        self.unchanged(desk, InvalidSlip, 1, "all 5 0 5 0")
        self.unchanged(desk, InvalidSlip, 2, "all 4 0 6 0 7 2")

    def test_two_desks_in_turn(self):
        one, other = Desk(), Desk()
        self.says(one, (NEWEST_TOLD, "ok"))
        self.invalid(other, "now")
        self.says(other, ("machine 1 3 1 2 0", "ok"))
        for time in range(4):
            self.says(one, (f"come {time} 1", "ok"), ("now", "1"))
            self.says(other, (f"come {time} 0", "ok"), ("now", str((time + 1) % 3)), ("kept", "none"))
        self.says(one, ("kept", "3:1"))


class FormTest(DeskCase):
    def test_a_desk(self):
        desk = Desk()
        self.assertEqual(desk.say(command=NEWEST_TOLD), "ok")
        for other in (None, 0, "", (), desk.store, Desk):
            self.assertFalse(desk == other)

    def test_before_the_first_machine(self):
        for command in RIGHT[2:]:
            self.invalid(Desk(), command)
        desk = Desk()
        self.unchanged(desk, Blind, 0, told(FIRST))
        self.invalid(desk, "now")

    def test_what_is_no_string(self):
        for desk in (Desk(), desk_with(NEWEST, "come 4 1")):
            for command in (None, 0, True, b"now", ["now"], ("now",), {"now": 0}, ["come", 5, 1], NEWEST, desk):
                self.invalid(desk, command)

    def test_one_number_too_few_or_too_many(self):
        desk = desk_with(NEWEST, "come 2 1")
        for command in RIGHT:
            if not command.startswith("all"):
                self.invalid(desk, command + " 0")
            self.invalid(desk, command + " 0 0 x")
            if " " in command:
                self.invalid(desk, command.rpartition(" ")[0])
                self.invalid(desk, command.partition(" ")[0])
        for command in (
            "come 5", "come", "come 5 1 6", "come 5 1 6 0", "all", "all 5", "all 5 1 6", "now 0", "now 0 0", "count 1", "kept 0",
            "kept 0 0", "kind 0", "undo 1", "undo 1 1", "matters", "matters 5", "matters 5 1 0", "matters 5 1 6 0",
        ):
            self.invalid(desk, command)

    def test_spaces_and_newlines(self):
        desk = desk_with(NEWEST, "come 2 1")
        for command in RIGHT:
            for other in (
                " " + command, command + " ", command + "\n", "\n" + command, command + "\r", command + "\t", command + "\x00",
                command + "\v", command + "\f", command + "\x85", command + "\u2028", command + "\u00a0", command + ".",
                command + " \n", command + "\n ", command + "\n" + command, "\ufeff" + command, command.upper(), command.title(),
            ):
                self.invalid(desk, other)
            if " " in command:
                for between in ("  ", "\t", "\n", "\u00a0", ",", " \n ", " \n", "\n ", "", "\u3000"):
                    self.invalid(desk, command.replace(" ", between, 1))
                    self.invalid(desk, between.join(command.rsplit(" ", 1)))

    def test_empty_texts_and_unknown_words(self):
        for desk in (Desk(), desk_with(NEWEST, "come 2 1")):
            for command in (
                "", " ", "  ", "\n", "0", "4 1", "later", "noww", "no", "come4 1", "meet", "within", "would_be 5 1", "store",
                "start", "help", "5 come 1", "come 5 come", "all all", "now now", "none", "ok", "tray", "come_all 5 1",
                "MACHINE 1 1 0",
            ):
                self.invalid(desk, command)

    def test_numbers(self):
        desk = desk_with(NEWEST, "come 2 1")
        wrong = (
            "00", "01", "0001", "00000", "10000", "99999", "123456", "-1", "-0", "+1", "+0", "1.0", "1e1", "0x1", "1_0",
            "one", "", "1,", "None",
        )
        for number in wrong + OTHER_FIGURES:
            for command in (
                f"come {number} 1", f"come 7 {number}", f"all 7 1 {number} 1", f"matters {number} 1", f"matters 7 {number}",
            ):
                self.invalid(desk, command)
        self.says(desk, ("come 9999 1", "ok"), ("come 0 0", "ok"), ("come 10 0", "ok"), ("matters 1000 0", "no"))


if __name__ == "__main__":
    unittest.main()
