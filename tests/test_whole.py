"""What the document promises over the whole program."""

import copy
import importlib
import inspect
import unittest

from lateslips import errors
from lateslips.desk import Desk
from lateslips.labels import Labels
from lateslips.machines import Machine
from lateslips.store import Store
from tests import plain
from tests.case import CARDS, DOWN, FIRST, NEWEST, SUMS
from tests.test_interface import INTERFACE

SHOWN = Machine(2, [(1, 1), (0, 2), (2, 0)])
TOP = Machine(2, [(0, 1), (1, 1)])
LOAD = ((), 0, 0, 1)
FAULT = (0, 1, (0,))
BASE = (0, ())

# For each function of the interface arguments in their order, and such that are told by name alone.
CALLS = {
    "checked_row": [(NEWEST, [0, 1])],
    "end_state": [(NEWEST, 0, [0, 1])],
    "effect": [(NEWEST, [0, 1]), (DOWN, ())],
    "effect_of_power": [(DOWN, [0, 1], 10 ** 18)],
    "beside": [(NEWEST, DOWN)],
    "kernel": [(NEWEST, [1])],
    "kernels": [(DOWN,)],
    "row_of_kernel": [(DOWN, (0, 0, 0)), (DOWN, [0, 0, 0])],
    "is_within": [((0, 1, 2), (0, 0, 2))],
    "checked_slip": [(NEWEST, (3, 1))],
    "checked_heap": [(NEWEST, [(5, 0), (3, 1)])],
    "row_of": [(NEWEST, [(5, 0), (3, 1)])],
    "put_in": [(NEWEST, [(5, 0), (3, 1)], (4, 1))],
    "since": [(NEWEST, [(5, 0), (3, 1)], 3)],
    "until": [(NEWEST, [(5, 0), (3, 1)], 5)],
    "truth": [(NEWEST, 0, [(5, 0), (3, 1)])],
    "machine_text": [(NEWEST,)],
    "read_machine": [("machine 2 2\n0 1\n0 1",)],
    "beginnings": [(NEWEST, 0, [(5, 0), (3, 1)])],
    "answers": [(FIRST, 1, [(5, 0)], (3, 1), {"among": [1, 0]}), (FIRST, 1, [(5, 0)], (3, 1))],
    "told": [(FIRST, 1, [(5, 0)], (3, 1), {"among": [1]})],
    "fault": [(FIRST, (2, 1, 2)), (NEWEST, (1, 1))],
    "is_fault": [(FIRST, (2, 1, 2), FAULT), (FIRST, (2, 1, 2), list(FAULT))],
    "guard": [(Machine(1, [(1,), (0,)]), (1, 0))],
    "is_guard": [(Machine(1, [(1,), (0,)]), (1, 0), ((0, 1, 1, 0), (1, 0, 0, 1)))],
    "late_commands": [(NEWEST,)],
    "is_blind": [(FIRST,)],
    "blind_fault": [(FIRST,)],
    "fault_pairs": [(FIRST,)],
    "is_note": [(FIRST, (0, 1, 1)), (FIRST, [0, 1, 1])],
    "least_note": [(FIRST,)],
    "is_part": [([0, 0], [0, 1, 0])],
    "kept_commands": [(DOWN, [0, 1, 0, 0])],
    "kept_of_power": [(DOWN, [0, 1], 1000)],
    "is_enough": [(DOWN, [0, 1, 0, 0], (0, 2)), (DOWN, [0, 1, 0, 0], [0, 2])],
    "greatest_kernel": [(DOWN,)],
    "fewest_classes": [(DOWN,)],
    "settled": [(DOWN,)],
    "rounds_needed": [(DOWN,)],
    "slow_rounds": [(DOWN,)],
    "least_rows": [(DOWN, 2, 0)],
    "meeting": [(DOWN, 0, 1, [1, 0, 1])],
    "is_meeting": [(DOWN, 0, 1, [1, 0, 1], (1,)), (DOWN, 0, 1, [1, 0, 1], [1])],
    "ladder": [(DOWN,)],
    "count_roots": [(DOWN, (0, 0, 0))],
    "recurrence": [(DOWN, (0, 0, 2))],
    "rows_with_kernel": [(DOWN, 10 ** 18, (0, 0, 0), {"modulus": 1000}), (DOWN, 5, (0, 0, 2))],
    "meeting_rows": [(DOWN, 3, 0, 2), (DOWN, 3, 0, 2, {"modulus": 3})],
    "nth_row": [(DOWN, 3, (0, 0, 2), 1)],
    "rows_with_tray": [(NEWEST, 4, [1]), (NEWEST, 4, [1], {"modulus": 5})],
    "tray_sizes": [(NEWEST, 4), (NEWEST, 10 ** 18, {"modulus": 7})],
    "is_free": [(NEWEST, 0, [1])],
    "clash": [(NEWEST, 0, [])],
    "free_commands": [(NEWEST, [1])],
    "tray": [(NEWEST, [(4, 1), (2, 0)])],
    "thrown": [(NEWEST, [(4, 1), (2, 0)])],
    "holds_tray": [(NEWEST, [(4, 1), (2, 0)], [(4, 1)])],
    "thrown_by": [(NEWEST, [(4, 1), (2, 0)], (6, 0))],
    "tray_of_both": [(NEWEST, [(4, 1), (2, 0)], [(6, 0)])],
    "ends": [(NEWEST, 0, [], [(1, 1)])],
    "redone": [(NEWEST, 0, [], [(1, 1)], {"by": 7})],
    "receive": [(NEWEST, 1, [(4, 1)], (2, 0), {"by": 1}), (NEWEST, 1, [(4, 1)], (2, 0))],
    "receive_all": [(NEWEST, 0, [(4, 1), (6, 0), (5, 1)], {"by": 10 ** 9})],
    "kind_of": [(CARDS,)],
    "is_load": [(CARDS, LOAD), (CARDS, list(LOAD))],
    "verdict": [(CARDS,), (NEWEST,), (FIRST,)],
    "is_verdict": [(FIRST, ("blind", (0, 1, 1, (0,))))],
    "period": [(CARDS, LOAD)],
    "week_heap": [(CARDS, LOAD, [0, 1])],
    "parting_slip": [(CARDS, LOAD, [0, 1], [1, 1])],
    "filled_end": [(NEWEST, 0, [(3, 1)], ((4, (0, 0)),))],
    "parting": [(NEWEST, 0, [(3, 1)], [(5, 1)])],
    "notes_needed": [(NEWEST, 0, [[(3, 1)], [(5, 1)], [(5, 1), (2, 0)]])],
    "is_stuck": [(NEWEST, [0])],
    "longest_stuck": [(NEWEST,)],
    "block_heap": [(NEWEST, [0, 1], [2, 0], 3)],
    "is_harmless": [(NEWEST, 0, [1])],
    "firm_tray": [(NEWEST, [(4, 1), (2, 0)])],
    "heap_of_story": [(NEWEST, [(4, 1), (2, 0), (4, 1)])],
    "receive_again": [(NEWEST, 1, [(4, 1)], (2, 0))],
    "tell_story": [(NEWEST, 0, [(4, 1), (2, 0), (4, 1)])],
    "again_verdict": [(SUMS,), (NEWEST,), (FIRST,)],
    "is_again_verdict": [(SUMS, ("counting", (((0, 1, 2),), ((), 0, 1))))],
    "longest_firm": [(NEWEST,)],
    "linked": [(NEWEST,)],
    "lot_heap": [(SUMS, ((), 0, 1), [4, 2], 7)],
    "parting_again": [(SUMS, 0, [(1, 0)], [(2, 0)])],
    "is_standing": [(NEWEST, (1, ((4, 1),))), (NEWEST, [1, [(4, 1)]])],
    "taken": [(NEWEST, BASE, (1, ((4, 1),)), (5, 0))],
    "taken_all": [(NEWEST, BASE, [(5, 0), (4, 1)])],
    "is_road": [(SUMS, (1, ()), BASE, (0, 0)), (SUMS, (1, ()), BASE, [0, 0])],
    "road": [(SUMS, (1, ()), BASE)],
    "merge": [(SUMS, BASE, [(2, ()), (2, ())]), (SUMS, BASE, [(2, ()), (2, ())], {"roads": [(0, 0), (0, 0)]})],
    "is_idle": [(NEWEST, 0, [1])],
    "gist": [(NEWEST, [(4, 1), (2, 0)])],
    "share": [(NEWEST, (1, ((4, 1),)), (0, ((2, 0),)))],
    "merge_fault": [(FIRST, 0)],
    "is_merge_fault": [(FIRST, 0, ((), (0,), 1, (0,))), (FIRST, 0, [(), (0,), 1, (0,)])],
    "mended_states": [(TOP, 1, [1], [0], {"since": [1]}), (TOP, 1, [1], [0])],
    "can_be_mended": [(TOP, [1], [0], {"since": [1]})],
    "may_become": [(TOP, [1], [0])],
    "mending_fault": [(TOP, [1], [0])],
    "is_mending_fault": [(TOP, [1], [0], (0, 1, ())), (TOP, [1], [0], [0, 1, []])],
    "exchange": [(NEWEST, [(5, 0), (3, 1)], (3, 0))],
    "swap": [(NEWEST, [(5, 0), (3, 1)], 3)],
    "strike": [(NEWEST, [(5, 0), (3, 1)], 3)],
    "right_exchanges": [(TOP,)],
    "right_swaps": [(TOP,)],
    "right_strikes": [(TOP,)],
    "grade": [(TOP,)],
    "length_ladder": [(SUMS,)],
    "is_length_ladder": [(SUMS, ((0, 1, 2),)), (SUMS, [(0, 1, 2)])],
    "exchange_fault": [(TOP,)],
    "swap_fault": [(CARDS,), (DOWN,)],
    "is_face": [(FIRST, (0, 1, 1)), (FIRST, [0, 1, 1])],
    "face_machine": [(FIRST, (0, 1, 1))],
    "closed_face": [(FIRST, [(0, 1)])],
    "common_face": [(FIRST, (0, 1, 1), (0, 0, 0))],
    "fulfils": [(FIRST,), (FIRST, "late")],
    "finest_face": [(FIRST,), (FIRST, "struck")],
    "reasons": [(FIRST, "late", 1, 2), (FIRST, "late", 0, 1)],
    "is_reasons": [(FIRST, "late", 1, 2, ((0, 1, (0,), (1, 0)),)), (FIRST, "late", 1, 2, [[0, 1, [0], [1, 0]]])],
    "label_fault": [(Labels(FIRST, [0, 0, 1]),)],
    "is_label_fault": [(Labels(FIRST, [0, 0, 1]), (0, 1, 1, ())), (Labels(FIRST, [0, 0, 1]), [0, 1, 1, []])],
    "can_show": [(Labels(FIRST, [3, 3, 3]), "struck"), (Labels(FIRST, [3, 3, 3]),)],
    "moment_ends": [(NEWEST, 1, [(4, 1)], 0)],
    "possible_ends": [(NEWEST, 1, [(4, 1)], 0, {"last": 3}), (NEWEST, 1, [(4, 1)], 0, {"first": 5}), (NEWEST, 1, [(4, 1)], 0)],
    "placed_end": [(NEWEST, 1, [(4, 1)], [0, 1], ((0, 1), (1, 0)))],
    "ends_of_all": [(NEWEST, 1, [(4, 1)], [0, 1])],
    "placing_to": [(NEWEST, 1, [(4, 1)], [0, 1], 0)],
    "ends_by_number": [(NEWEST, 1, 10 ** 18, 0)],
    "number_fault": [(CARDS,), (NEWEST,)],
    "is_number_fault": [(CARDS, (0, 1, 0, (0,), (1,))), (CARDS, [0, 1, 0, [0], [1]])],
    "table": [(SHOWN, [0, 1])],
    "tables": [(SHOWN,)],
    "order_fault": [(SHOWN,)],
    "is_order_fault": [(SHOWN, (0, 1, 0, 0)), (SHOWN, [0, 1, 0, 0])],
    "sheet_holds": [(("note", (FIRST,), (0, 1, 1)),), (["note", [FIRST], [0, 1, 1]],)],
    "sheet": [("verdict", (FIRST,)), ("fault", (FIRST, (2, 1, 2)))],
    "wrong_sheets": [([("note", (FIRST,), (0, 1, 1)), None],)],
}
# What stands in the document behind >>>, chapter by chapter.
SHOWN_LINES = (
    ("kernel(newest, (1,))", (0, 0)),
    ("kernels(newest)", ((0, 0), (0, 1))),
    ("truth(newest, 0, [(5, 0), (3, 1)])", 0),
    ("put_in(newest, ((3, 1),), (2, 0))", ((2, 0), (3, 1))),
    ("answers(first, 1, [(5, 0)], (3, 1))", (1, 2)),
    ("answers(first, 1, [(5, 0)], (3, 1), among=[1])", (1,)),
    ("fault(first, (2, 1, 2))", (0, 1, (0,))),
    ("late_commands(first)", ()),
    ("fault_pairs(first)", ((0, 1), (0, 2))),
    ("least_note(first)", (0, 1, 1)),
    ("guard(Machine(1, [(1,), (0,)]), (1, 0))", ((0, 1, 1, 0), (1, 0, 0, 1))),
    ("kept_commands(down, (0, 1, 0, 0))", (2, 3)),
    ("kept_of_power(down, (0, 1), 1000)", (1996, 1998)),
    ("is_enough(down, (0, 1, 0, 0), (0, 2))", True),
    ("rounds_needed(down)", 2),
    ("slow_rounds(Machine(1, [(0,), (0,)]))", ()),
    ("settled(down).steps", ((0, 0),)),
    ("least_rows(down, 2, 0)", ((0, 0),)),
    ("least_rows(down, 1, 1)", ((),)),
    ("meeting(down, 0, 1, [1, 0, 1])", (1,)),
    ("kernels(down)", ((0, 0, 0), (0, 0, 2), (0, 1, 2))),
    ("ladder(down)", ((0, 0), (0, 1), (1, 2))),
    ("count_roots(down, (0, 0, 0))", ((1, 2), (2, 1))),
    ("recurrence(down, (0, 0, 2))", (-1, 2)),
    ("rows_with_kernel(down, 5, (0, 0, 2))", 5),
    ("meeting_rows(down, 3, 0, 2)", 4),
    ("nth_row(down, 3, (0, 0, 2), 1)", (1, 0, 1)),
    ("rows_with_kernel(down, 10 ** 18, (0, 0, 0), modulus=1000)", 375),
    ("rows_with_tray(newest, 4, (1,))", 8),
    ("tray_sizes(newest, 4)", (0, 16)),
    ("tray_sizes(newest, 10 ** 18, modulus=7)", (0, 2)),
    ("tray(newest, [(1, 0), (4, 1), (2, 0)])", ((4, 1),)),
    ("clash(newest, 0, ())", (0, 1)),
    ("is_free(newest, 0, (1,))", True),
    ("tray(sums, [(1, 0), (2, 0)])", ()),
    ("receive(newest, 1, ((4, 1),), (2, 0))", (1, ((4, 1),))),
    ("receive_all(newest, 0, [(4, 1), (6, 0), (5, 1)])", (0, ((6, 0),))),
    ("ends(newest, 0, (), ((1, 1),))", (1,)),
    ("week_heap(cards, ((), 0, 0, 1), (0, 1))", ((0, 0), (3, 0), (6, 0), (7, 0))),
    ("parting_slip(cards, ((), 0, 0, 1), (0, 1), (1, 1))", (1, 1)),
    ("longest_stuck(newest)", (0,)),
    ("notes_needed(newest, 0, [[(3, 1)], [(5, 1)], [(5, 1), (2, 0)]])", 2),
    ("tell_story(newest, 0, [(4, 1), (2, 0), (4, 1), (6, 0), (4, 1)])", (0, ((6, 0),))),
    ("is_again_verdict(sums, ('counting', (((0, 1, 2),), ((), 0, 1))))", True),
    ("parting_again(sums, 0, [(1, 0)], [(2, 0)])[1] in (((1, 0),), ((2, 0),))", True),
    ("longest_firm(newest)", (0,)),
    ("linked(newest)", (0, 0)),
    ("merge(sums, (0, ()), [(2, ()), (2, ())])", (1, ())),
    ("merge(newest, (0, ()), [(1, ((4, 1),)), (0, ((6, 0),))])", (0, ((6, 0),))),
    ("road(sums, (1, ()), (0, ()))", (0, 0)),
    ("share(newest, (1, ((4, 1),)), (0, ((2, 0),)))", (1, ((4, 1),))),
    ("taken(newest, (1, ((4, 1),)), (1, ((4, 1),)), (5, 0))", (0, ((4, 1), (5, 0)))),
    ("grade(top)", 2),
    ("exchange_fault(top)", (0, 1, ())),
    ("swap_fault(top)", None),
    ("right_exchanges(top)", ((0, 1),)),
    ("right_strikes(top)", (0,)),
    ("mending_fault(top, [1], [0])", (0, 1, ())),
    ("mended_states(top, 1, [1], [0])", (0, 1)),
    ("mended_states(top, 1, [1], [0], since=[1])", (1,)),
    ("finest_face(shared)", (0, 1, 1)),
    ("closed_face(shared, [(0, 1)])", (0, 0, 0)),
    ("face_machine(shared, (0, 1, 1)).steps", ((1, 1), (1, 1))),
    ("is_reasons(shared, 'late', 1, 2, ((0, 1, (0,), (1, 0)),))", True),
    ("reasons(shared, 'late', 0, 1)", None),
    ("fulfils(shared)", False),
    ("label_fault(Labels(shared, [0, 1, 1]))", None),
    ("can_show(Labels(shared, [3, 3, 3]), 'struck')", True),
    ("moment_ends(newest, 1, ((4, 1),), 0)", (1, 0)),
    ("possible_ends(newest, 1, ((4, 1),), 0, last=3)", (1,)),
    ("ends_of_all(newest, 1, ((4, 1),), [0])", (0, 1)),
    ("ends_by_number(newest, 1, 10 ** 18, 0)", (1,)),
    ("number_fault(newest)", None),
    ("order_fault(Machine(1, [(1,), (0,)]))", None),
    ("tables(Machine(2, [(1, 1), (0, 2), (2, 0)]))[0]", ((0, 2, 1), (1, 2, 0))),
    ("is_order_fault(Machine(2, [(1, 1), (0, 2), (2, 0)]), (0, 1, 0, 0))", True),
)


def functions():
    """All functions of the interface by their names."""
    found = {}
    for name, listed in INTERFACE.items():
        module = importlib.import_module("lateslips." + name)
        for line in listed:
            word = line.partition("(")[0]
            found[word] = getattr(module, word)
    return found


def calls():
    """For each function and each call its arguments by position and those by name alone, new ones each time."""
    for name, function in functions().items():
        for told in copy.deepcopy(CALLS[name]):
            named = {}
            if isinstance(told[-1], dict):
                told, named = told[:-1], told[-1]
            yield function, told, named


def emptied(value):
    """Changes all lists within a value."""
    if isinstance(value, list):
        value.clear()
        value.append("changed")
    if isinstance(value, tuple):
        for entry in value:
            emptied(entry)


def is_kept_well(value):
    """Whether a value holds nothing but tuples, numbers, strings, None and machines."""
    if type(value) is tuple:
        return all(is_kept_well(entry) for entry in value)
    return value is None or type(value) in (int, bool, str, Machine)


class WholeTest(unittest.TestCase):
    def test_each_function_stands_here(self):
        self.assertEqual(sorted(CALLS), sorted(functions()))

    def test_what_the_document_shows(self):
        names = functions()
        names.update({"newest": NEWEST, "first": FIRST, "shared": FIRST, "down": DOWN, "sums": SUMS, "cards": CARDS, "top": TOP})
        names.update({"Machine": Machine, "Labels": Labels})
        for line, wanted in SHOWN_LINES:
            found = eval(line, dict(names))
            self.assertEqual((line, found), (line, wanted))
            self.assertIs(type(found), type(wanted), line)

    def test_arguments_by_their_names(self):
        for function, told, named in calls():
            words = [word for word, _ in zip(inspect.signature(function).parameters, told)]
            wanted = function(*told, **named)
            self.assertEqual(function(**dict(zip(words, told)), **named), wanted)
            turned = dict(reversed(list(zip(words, told))))
            self.assertEqual(function(**named, **turned), wanted, function.__name__)

    def test_no_function_changes_its_arguments(self):
        for function, told, named in calls():
            before = copy.deepcopy((told, named))
            function(*told, **named)
            self.assertEqual((told, named), before, function.__name__)

    def test_later_changes_of_arguments_do_not_show(self):
        for function, told, named in calls():
            found = function(*told, **named)
            before = copy.deepcopy(found)
            emptied(told)
            emptied(tuple(named.values()))
            self.assertEqual(found, before, function.__name__)
        # Nor is anything kept from one call to the next one.
        for (function, told, named), (again, other, more) in zip(calls(), calls()):
            self.assertEqual(function(*told, **named), again(*other, **more))

    def test_what_is_told_is_told_in_tuples(self):
        for function, told, named in calls():
            self.assertTrue(is_kept_well(function(*told, **named)), function.__name__)

    def test_lists_do_not_matter_where_sequences_are_passed(self):
        for name, function in functions().items():
            for told in copy.deepcopy(CALLS[name]):
                named = told[-1] if isinstance(told[-1], dict) else {}
                told = told[:-1] if named else told
                if not name.startswith("is_") and name not in ("row_of_kernel", "sheet_holds"):
                    wanted = function(*told, **named)
                    named = {word: in_tuples(named[word]) for word in named}
                    self.assertEqual(function(*in_tuples(told), **named), wanted)

    def test_what_is_told_can_be_passed_again(self):
        each = functions()
        asked = (
            ("fault", "is_fault", FIRST, ((2, 1, 2),)), ("guard", "is_guard", NEWEST, ((0, 0),)),
            ("least_note", "is_note", FIRST, ()), ("meeting", "is_meeting", DOWN, (0, 1, (1, 0, 1))),
            ("verdict", "is_verdict", CARDS, ()),
            ("again_verdict", "is_again_verdict", SUMS, ()), ("kept_commands", "is_enough", DOWN, ((0, 1, 0, 0),)),
            ("road", "is_road", SUMS, ((1, ()), BASE)), ("merge_fault", "is_merge_fault", FIRST, (0,)),
            ("mending_fault", "is_mending_fault", TOP, ((1,), (0,))), ("length_ladder", "is_length_ladder", SUMS, ()),
            ("finest_face", "is_face", FIRST, ()), ("reasons", "is_reasons", FIRST, ("late", 1, 2)),
            ("number_fault", "is_number_fault", CARDS, ()), ("order_fault", "is_order_fault", SHOWN, ()),
            ("taken_all", "is_standing", NEWEST, (BASE, ((4, 1), (2, 0)))),
        )
        for made, checked, machine, more in asked:
            value = each[made](machine, *more)
            fewer = () if checked in ("is_face", "is_standing") else more
            self.assertIs(each[checked](machine, *fewer, value), True, made)

    def test_objects_equal_no_value_of_another_kind(self):
        objects = [NEWEST, Labels(NEWEST, (0, 1)), Store(NEWEST, 0), Desk(), errors.Refused(0), errors.InvalidCommand()]
        others = [None, 0, 1, True, "", (), [], (2, NEWEST.steps), NEWEST.steps, (0, 1), Machine, Labels, {}, 0.0]
        for place, one in enumerate(objects):
            for other in objects[:place] + objects[place + 1:] + others:
                self.assertFalse(one == other)
                self.assertFalse(other == one)
                self.assertTrue(one != other)

    def test_equal_machines_tell_the_same(self):
        for machine in plain.some_machines(10, "whole", states=(1, 4)):
            anew = Machine(machine.commands, [list(entry) for entry in machine.steps])
            for name in (
                "kernels", "late_commands", "blind_fault", "verdict", "again_verdict", "grade", "finest_face", "number_fault",
            ):
                self.assertEqual(functions()[name](machine), functions()[name](anew))


def in_tuples(value):
    """The value with tuples for all lists."""
    if isinstance(value, (list, tuple)):
        return tuple(in_tuples(entry) for entry in value)
    return value


if __name__ == "__main__":
    unittest.main()
