"""The names, arguments and places that the interface lists."""

import importlib
import inspect
import unittest

INTERFACE = {
    "machines": (
        "checked_row(machine, value)", "end_state(machine, state, row)", "effect(machine, row)",
        "effect_of_power(machine, row, times)", "beside(one, other)",
    ),
    "kernels": (
        "kernel(machine, row)", "kernels(machine)", "row_of_kernel(machine, value)", "is_within(one, other)",
    ),
    "heaps": (
        "checked_slip(machine, value)", "checked_heap(machine, value)", "row_of(machine, heap)",
        "put_in(machine, heap, slip)", "since(machine, heap, time)", "until(machine, heap, time)",
        "truth(machine, state, heap)",
    ),
    "texts": ("machine_text(machine)", "read_machine(text)"),
    "views": (
        "beginnings(machine, now, heap)", "answers(machine, now, heap, slip, *, among=None)",
        "told(machine, now, heap, slip, *, among=None)",
    ),
    "changes": (
        "fault(machine, change)", "is_fault(machine, change, value)", "guard(machine, change)",
        "is_guard(machine, change, value)", "late_commands(machine)", "is_blind(machine)", "blind_fault(machine)",
    ),
    "notes": ("fault_pairs(machine)", "is_note(machine, value)", "least_note(machine)"),
    "few": (
        "is_part(one, other)", "kept_commands(machine, row)", "kept_of_power(machine, row, times)",
        "is_enough(machine, row, value)", "greatest_kernel(machine)", "fewest_classes(machine)", "settled(machine)",
    ),
    "rounds": ("rounds_needed(machine)", "slow_rounds(machine)"),
    "least": (
        "least_rows(machine, one, other)", "meeting(machine, one, other, row)",
        "is_meeting(machine, one, other, row, value)",
    ),
    "ladders": ("ladder(machine)", "count_roots(machine, kernel)", "recurrence(machine, kernel)"),
    "counts": (
        "rows_with_kernel(machine, length, kernel, *, modulus=None)",
        "meeting_rows(machine, length, one, other, *, modulus=None)", "nth_row(machine, length, kernel, number)",
    ),
    "traycounts": (
        "rows_with_tray(machine, length, row, *, modulus=None)", "tray_sizes(machine, length, *, modulus=None)",
    ),
    "frees": ("is_free(machine, command, row)", "clash(machine, command, row)", "free_commands(machine, row)"),
    "trays": (
        "tray(machine, heap)", "thrown(machine, heap)", "holds_tray(machine, heap, kept)",
        "thrown_by(machine, heap, slip)", "tray_of_both(machine, one, other)",
    ),
    "late": (
        "ends(machine, now, kept, late)", "redone(machine, now, kept, late, *, by=0)",
        "receive(machine, now, kept, slip, *, by=0)", "receive_all(machine, state, slips, *, by=0)",
    ),
    "verdicts": (
        "kind_of(machine)", "is_load(machine, value)", "verdict(machine)", "is_verdict(machine, value)",
    ),
    "weeks": (
        "period(machine, load)", "week_heap(machine, load, choices)", "parting_slip(machine, load, choices, others)",
    ),
    "parted": (
        "filled_end(machine, state, heap, filling)", "parting(machine, state, one, other)",
        "notes_needed(machine, state, heaps)",
    ),
    "stuck": ("is_stuck(machine, row)", "longest_stuck(machine)", "block_heap(machine, row, places, width)"),
    "harmless": ("is_harmless(machine, command, row)", "firm_tray(machine, heap)"),
    "stories": (
        "heap_of_story(machine, story)", "receive_again(machine, now, kept, slip)",
        "tell_story(machine, state, story)",
    ),
    "lasting": (
        "again_verdict(machine)", "is_again_verdict(machine, value)", "longest_firm(machine)", "linked(machine)",
    ),
    "lots": ("lot_heap(machine, counter, times, behind)", "parting_again(machine, state, one, other)"),
    "copies": (
        "is_standing(machine, value)", "taken(machine, base, standing, slip)", "taken_all(machine, base, slips)",
    ),
    "merging": (
        "is_road(machine, base, standing, value)", "road(machine, base, standing)",
        "merge(machine, base, standings, *, roads=None)",
    ),
    "gossip": ("is_idle(machine, command, row)", "gist(machine, heap)", "share(machine, one, other)"),
    "unmerged": ("merge_fault(machine, state)", "is_merge_fault(machine, state, value)"),
    "mending": (
        "mended_states(machine, now, row, other, *, since=())", "can_be_mended(machine, row, other, *, since=())",
        "may_become(machine, row, other)", "mending_fault(machine, row, other)",
        "is_mending_fault(machine, row, other, value)",
    ),
    "corrections": (
        "exchange(machine, heap, slip)", "swap(machine, heap, time)", "strike(machine, heap, time)",
        "right_exchanges(machine)", "right_swaps(machine)", "right_strikes(machine)",
    ),
    "grades": (
        "grade(machine)", "length_ladder(machine)", "is_length_ladder(machine, value)", "exchange_fault(machine)",
        "swap_fault(machine)",
    ),
    "faces": (
        "is_face(machine, value)", "face_machine(machine, face)", "closed_face(machine, pairs)",
        "common_face(machine, one, other)",
    ),
    "wishes": ("fulfils(machine, wish='late')", "finest_face(machine, wish='late')"),
    "reasons": ("reasons(machine, wish, one, other)", "is_reasons(machine, wish, one, other, value)"),
    "labels": ("label_fault(labels)", "is_label_fault(labels, value)", "can_show(labels, wish='late')"),
    "moments": (
        "moment_ends(machine, now, kept, command)", "possible_ends(machine, now, kept, command, *, first=0, last=None)",
        "placed_end(machine, now, kept, commands, placing)", "ends_of_all(machine, now, kept, commands)",
        "placing_to(machine, now, kept, commands, end)",
    ),
    "bynumber": (
        "ends_by_number(machine, now, many, command)", "number_fault(machine)", "is_number_fault(machine, value)",
    ),
    "bycounts": ("table(machine, row)", "tables(machine)", "order_fault(machine)", "is_order_fault(machine, value)"),
    "sheets": ("sheet_holds(value)", "sheet(name, question)", "wrong_sheets(values)"),
}

CLASSES = {
    "errors": (
        "SlipsError", "InvalidMachine", "InvalidRow", "InvalidSlip", "InvalidQuestion", "InvalidText", "Blind",
        "Heavy", "Refused", "InvalidCommand",
    ),
    "machines": ("Machine",),
    "labels": ("Labels",),
    "store": ("Store",),
    "desk": ("Desk",),
}

METHODS = {
    "machines": ("Machine", "(commands, steps)", ("__eq__(self, other)",)),
    "labels": ("Labels", "(machine, numbers)", ("__call__(self, state)", "__eq__(self, other)")),
    "store": (
        "Store", "(machine, state)",
        (
            "__len__(self)", "now(self)", "kept(self)", "count(self)", "come(self, slip)", "come_all(self, slips)",
            "meet(self, other)", "would_be(self, slip)", "matters(self, slip)", "undo(self)", "within(self, work)",
        ),
    ),
    "desk": ("Desk", "()", ("say(self, command)",)),
}


class InterfaceTest(unittest.TestCase):
    def test_functions(self):
        for name, listed in INTERFACE.items():
            module = importlib.import_module("lateslips." + name)
            for line in listed:
                function = getattr(module, line.partition("(")[0])
                self.assertEqual(function.__name__ + str(inspect.signature(function)), line)
                self.assertEqual(function.__module__, module.__name__)

    def test_classes(self):
        for name, listed in CLASSES.items():
            module = importlib.import_module("lateslips." + name)
            for word in listed:
                self.assertTrue(inspect.isclass(getattr(module, word)))
                self.assertEqual(getattr(module, word).__module__, module.__name__)

    def test_methods_stand_in_their_class(self):
        for name, (word, signature, listed) in METHODS.items():
            found = getattr(importlib.import_module("lateslips." + name), word)
            self.assertEqual(str(inspect.signature(found)), signature)
            for line in listed:
                method = vars(found)[line.partition("(")[0]]
                self.assertEqual(method.__name__ + str(inspect.signature(method)), line)

    def test_wishes(self):
        from lateslips.wishes import WISHES

        self.assertEqual(WISHES, ("late", "tray", "free", "swapped", "exchanged", "struck"))


if __name__ == "__main__":
    unittest.main()
