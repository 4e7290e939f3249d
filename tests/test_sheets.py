import random
import unittest

from lateslips.changes import fault, guard, is_fault, is_guard
from lateslips.errors import Blind, InvalidQuestion, InvalidRow, Refused, SlipsError
from lateslips.least import is_meeting, meeting
from lateslips.machines import Machine, effects
from lateslips.notes import is_note, least_note
from lateslips.sheets import sheet, sheet_holds, wrong_sheets
from lateslips.verdicts import is_verdict, verdict
from tests import plain
from tests.case import (
    CARDS, CARDS_AND_STOCKS, Case, DOWN, FIRST, LONG, NEWEST, NO_ROWS, ONE, SUMS, TURN_AND_END, WIDE_HEAVY,
)

KINDS = {
    "fault": (fault, is_fault), "guard": (guard, is_guard), "meeting": (meeting, is_meeting),
    "verdict": (verdict, is_verdict), "note": (least_note, is_note),
}
NO_NAMES = (
    None, 0, True, "", "Fault", "fault ", " note", "faults", "least_note", ["fault"], ("fault",), {"fault": 0}, {"note"},
    b"fault", FIRST,
)


def machines():
    return list(plain.some_machines(12, "sheets", states=(1, 4))) + plain.some_sighted(6, "sheets", states=(2, 4)) + [
        NEWEST, SUMS, CARDS, DOWN, FIRST, TURN_AND_END, ONE,
    ]


def questions(machine):
    """Pairs of a kind of sheet and a question for it."""
    for change in effects(machine) + (tuple(range(machine.states)), (0,) * machine.states):
        yield "fault", (machine, change)
        yield "guard", (machine, change)
    yield "verdict", (machine,)
    yield "note", (machine,)
    for one in range(machine.states):
        for row in plain.rows(machine.commands, 2):
            yield "meeting", (machine, one, 0, row)
            yield "meeting", (machine, one, machine.states - 1, list(row))


def answer(name, question):
    """What the first function tells, None also where it raises an error."""
    try:
        return KINDS[name][0](*question)
    except SlipsError:
        return None


def holds(name, question, value):
    try:
        return KINDS[name][1](*question, value)
    except SlipsError:
        return False


class SheetTest(Case):
    def test_all_kinds(self):
        told = set()
        for machine in machines():
            for name, question in questions(machine):
                found = answer(name, question)
                if found is not None:
                    told.add(name)
                    made = sheet(name, question)
                    self.assertEqual(made, (name, question, found))
                    self.assertEqual((type(made), type(made[1])), (tuple, tuple))
                    self.assertEqual(sheet(name=name, question=question), made)
                    self.assertIs(sheet_holds(made), True)
                    self.assertIs(sheet_holds(value=made), True)
        self.assertEqual(told, set(KINDS))

    def test_errors_of_the_first_function(self):
        self.fails(Refused, 0, sheet, "fault", (FIRST, [2, 1, 2]))
        self.fails(Refused, 0, sheet, "guard", (FIRST, None))
        self.fails(Refused, 0, sheet, "guard", (FIRST, (0, 1, True)))
        self.fails(Blind, 0, sheet, "meeting", (FIRST, None, None, None))
        self.fails(InvalidQuestion, 1, sheet, "meeting", (NEWEST, 2, None, None))
        self.fails(InvalidQuestion, 2, sheet, "meeting", (NEWEST, 0, False, None))
        for row, at in NO_ROWS:
            self.fails(InvalidRow, at, sheet, "meeting", (NEWEST, 0, 1, row))

    def test_where_it_tells_none(self):
        self.fails(Refused, 2, sheet, "fault", (NEWEST, (0, 1)))
        self.fails(Refused, 2, sheet, "guard", (FIRST, (2, 1, 2)))
        self.fails(Refused, 2, sheet, "meeting", (NEWEST, 0, 1, ()))
        self.fails(Refused, 2, sheet, "meeting", (SUMS, 0, 1, [0, 0]))
        for machine in machines():
            for name, question in questions(machine):
                self.refused_like(name, question)

    def refused_like(self, name, question):
        """Each question is refused as the first function refuses it, or as it tells None."""
        try:
            found = KINDS[name][0](*question)
        except SlipsError as error:
            self.fails(type(error), error.at, sheet, name, question)
        else:
            if found is None:
                self.fails(Refused, 2, sheet, name, question)

    def test_names_that_are_none(self):
        for name in NO_NAMES:
            self.fails(Refused, 0, sheet, name, (FIRST, (2, 1, 2)))
            self.fails(Refused, 0, sheet, name, None)

    def test_questions_that_are_none(self):
        for question in (
            None, 0, "", (), [FIRST, (2, 1, 2)], (FIRST,), (FIRST, (2, 1, 2), ()), (None, (2, 1, 2)), ((2, 1, 2), FIRST),
            (FIRST.steps, (2, 1, 2)), (Machine, (2, 1, 2)), {}, FIRST,
        ):
            for name in ("fault", "guard"):
                self.fails(Refused, 1, sheet, name, question)
        for question in (None, (), (NEWEST, 0, 1), (NEWEST, 0, 1, (), ()), [NEWEST, 0, 1, (0,)], (0, NEWEST, 1, ())):
            self.fails(Refused, 1, sheet, "meeting", question)
        for question in (None, (), NEWEST, [NEWEST], (NEWEST, ()), (None,), ((NEWEST,),)):
            for name in ("verdict", "note"):
                self.fails(Refused, 1, sheet, name, question)

    def test_a_question_that_is_changed_after_the_call(self):
        row = [1, 0, 1]
        question = (DOWN, 0, 1, row)
        made = sheet("meeting", question)
        self.assertEqual(question, (DOWN, 0, 1, [1, 0, 1]))
        row.clear()
        self.assertEqual(made, ("meeting", (DOWN, 0, 1, [1, 0, 1]), (1,)))
        self.assertIs(sheet_holds(made), True)
        # Nor does a change of what was told show in what is asked about.
        made[1][3].clear()
        self.assertEqual(row, [])
        self.assertEqual(sheet("meeting", (DOWN, 0, 1, [1, 0, 1])), ("meeting", (DOWN, 0, 1, [1, 0, 1]), (1,)))

    def test_at_the_limits(self):
        chance = random.Random("sheets")
        row = [chance.randrange(5) for _ in range(10000)]
        for machine in (LONG, WIDE_HEAVY, CARDS_AND_STOCKS, plain.WIDE):
            for name in ("verdict", "note"):
                self.assertIs(sheet_holds(sheet(name, (machine,))), True)
            for change in effects(machine):
                self.assertIs(sheet_holds(sheet("guard", (machine, change))), True)
                self.fails(Refused, 2, sheet, "fault", (machine, change))
            self.assertIs(sheet_holds(sheet("meeting", (machine, 9, 8, row))), meeting(machine, 9, 8, row) is not None)
        for machine in plain.some_machines(2, "wide sheets", (5, 5), (10, 10)):
            self.assertIs(sheet_holds(sheet("verdict", (machine,))), True)
            self.assertIs(sheet_holds(sheet("note", (machine,))), True)
            self.assertIs(sheet_holds(sheet("fault", (machine, effects(machine)[0]))), True)


class HoldsTest(Case):
    def test_values_with_one_place_changed(self):
        told = set()
        for machine in machines():
            for name, question in questions(machine):
                found = answer(name, question)
                for value in plain.changed(found) if found is not None else (None, (), 0, (0,), [], ((), ())):
                    wanted = holds(name, question, value)
                    self.assertIs(sheet_holds((name, question, value)), wanted)
                    told.add((name, wanted))
        self.assertEqual(len(told), 2 * len(KINDS))

    def test_more_than_one_value_may_hold(self):
        self.assertIs(sheet_holds(("note", (FIRST,), (7, 3, 3))), True)
        self.assertIs(sheet_holds(("fault", (FIRST, (2, 1, 2)), (0, 1, (0,)))), True)
        self.assertIs(sheet_holds(("fault", (FIRST, (2, 1, 2)), (0, 1, (0, 1)))), True)
        self.assertIs(sheet_holds(("meeting", (DOWN, 0, 1, [0, 1, 0]), (0,))), True)
        self.assertIs(sheet_holds(("meeting", (DOWN, 0, 1, (0, 1, 0)), (2,))), True)

    def test_lists_in_values(self):
        for value in ([0, 1, (0,)], (0, 1, [0])):
            self.assertIs(sheet_holds(("fault", (FIRST, (2, 1, 2)), value)), False)
        for value in ([(0, 1, 1, 0), (1, 0, 0, 1)], ([0, 1, 1, 0], (1, 0, 0, 1)), ((0, 1, 1, 0), [1, 0, 0, 1])):
            self.assertIs(sheet_holds(("guard", (Machine(1, [(1,), (0,)]), (1, 0)), value)), False)
        self.assertIs(sheet_holds(("note", (FIRST,), [0, 1, 1])), False)
        self.assertIs(sheet_holds(("meeting", (DOWN, 0, 1, [0]), [0])), False)
        kind, told = verdict(NEWEST)
        for value in ([kind, told], (kind, list(told)), (kind, tuple(list(entry) for entry in told)), ([kind], told)):
            self.assertIs(sheet_holds(("verdict", (NEWEST,), value)), False)

    def test_where_the_checking_function_raises_an_error(self):
        for question in ((FIRST, [2, 1, 2]), (FIRST, None), (FIRST, (0, 1)), (FIRST, (0, 1, 3))):
            for name in ("fault", "guard"):
                self.assertIs(sheet_holds((name, question, (0, 1, (0,)))), False)
                self.assertIs(sheet_holds((name, question, ())), False)
        for question in ((FIRST, 0, 0, ()), (NEWEST, 2, 0, ()), (NEWEST, 0, True, ()), (NEWEST, 0, 0, None), (NEWEST, 0, 0, [2])):
            self.assertIs(sheet_holds(("meeting", question, ())), False)
        self.assertIs(sheet_holds(("meeting", (NEWEST, 0, 0, []), ())), True)

    def test_what_is_no_sheet(self):
        made = sheet("note", (FIRST,))
        for value in (
            None, 0, "", (), "note", list(made), made[:2], made + (0,), (made,), {}, FIRST, (None, (FIRST,), (0, 1, 1)),
            ("note", [FIRST], (0, 1, 1)), ("note", FIRST, (0, 1, 1)), ("note", (), (0, 1, 1)), ("note", (None,), (0, 1, 1)),
            ("note", (FIRST, FIRST), (0, 1, 1)), ("Note", (FIRST,), (0, 1, 1)), (["note"], (FIRST,), (0, 1, 1)),
            ((FIRST,), "note", (0, 1, 1)), ("verdict", (FIRST,), (0, 1, 1)), ("note", (FIRST,), None),
        ):
            self.assertIs(sheet_holds(value), False)
        for name in NO_NAMES:
            self.assertIs(sheet_holds((name, (FIRST, (2, 1, 2)), (0, 1, (0,)))), False)
            self.assertIs(sheet_holds((name, (FIRST,), (0, 1, 1))), False)


class WrongSheetsTest(Case):
    def test_the_indexes(self):
        good = [sheet("note", (FIRST,)), sheet("verdict", (SUMS,)), sheet("meeting", (DOWN, 2, 0, [0, 0]))]
        bad = [None, ("note", (FIRST,), (0, 0, 1)), ("fault", (FIRST, None), None), list(good[0])]
        self.assertEqual(wrong_sheets(good), ())
        self.assertEqual(wrong_sheets(tuple(bad)), (0, 1, 2, 3))
        values = [good[0], bad[0], bad[1], good[1], bad[2], good[2], bad[3], good[0]]
        found = wrong_sheets(values=values)
        self.assertEqual(found, (1, 2, 4, 6))
        self.assertIs(type(found), tuple)
        self.assertEqual(len(values), 8)
        self.assertEqual((wrong_sheets(()), wrong_sheets([])), ((), ()))

    def test_what_is_no_sequence(self):
        for value in (None, 0, "", "note", {}, {0}, FIRST, range(2), True):
            self.fails(InvalidQuestion, 0, wrong_sheets, value)

    def test_machines_in_turn(self):
        for _ in range(2):
            told = [sheet("verdict", (machine,))[2][0] for machine in (FIRST, NEWEST, CARDS, SUMS)]
            self.assertEqual(told, ["blind", "tray", "heavy", "tray"])


if __name__ == "__main__":
    unittest.main()
