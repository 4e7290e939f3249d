import unittest

from lateslips.errors import InvalidText
from lateslips.machines import Machine
from lateslips.texts import machine_text, read_machine
from tests import plain


class TextTest(unittest.TestCase):
    def wrong(self, at, text):
        with self.assertRaises(InvalidText) as caught:
            read_machine(text)
        self.assertEqual(caught.exception.at, at, text)

    def test_texts(self):
        self.assertEqual(machine_text(Machine(2, [(0, 1), (0, 1)])), "machine 2 2\n0 1\n0 1")
        self.assertEqual(machine_text(machine=Machine(1, [(0,)])), "machine 1 1\n0")
        self.assertEqual(read_machine(text="machine 1 2\n1\n0"), Machine(1, [(1,), (0,)]))

    def test_there_and_back(self):
        for machine in plain.some_machines(60, "texts", commands=(1, 5), states=(1, 12)):
            self.assertEqual(read_machine(machine_text(machine)), machine)

    def test_two_figures(self):
        ninety_nine = Machine(1, [((state + 1) % 99,) for state in range(99)])
        self.assertEqual(read_machine(machine_text(ninety_nine)), ninety_nine)
        hundred = Machine(1, [((state + 1) % 100,) for state in range(100)])
        self.wrong(0, machine_text(hundred))

    def test_no_strings(self):
        for text in (None, 0, b"machine 1 1\n0", ["machine 1 1", "0"], True):
            self.wrong(0, text)

    def test_the_first_line(self):
        for line in ("", "machine", "machine 1", "machine 1 1 1", "Machine 1 1", "machine  1 1", " machine 1 1",
                     "machine 1 1 ", "machine 0 1", "machine 1 0", "machine 01 1", "machine 1 01", "machine -1 1",
                     "machine +1 1", "machine 1 x", "machine 100 1", "machine 1\t1", "machine 1 1\r", "machine \u0661 1"):
            self.wrong(0, line + "\n0")
            self.wrong(0, line)

    def test_other_lines(self):
        for line in ("", "0", "0 1 0", "0 2", "00 1", "0  1", " 0 1", "0 1 ", "0,1", "0 -0", "0 x", "0 001", "0 \u00b2"):
            self.wrong(1, "machine 2 2\n" + line + "\nx")
            self.wrong(2, "machine 2 2\n0 1\n" + line)

    def test_lines_missing(self):
        self.wrong(1, "machine 2 2")
        self.wrong(2, "machine 2 2\n0 1")
        self.wrong(2, "machine 2 99\n0 1")

    def test_lines_too_many(self):
        self.wrong(3, "machine 2 2\n0 1\n0 1\n")
        self.wrong(3, "machine 2 2\n0 1\n0 1\n0 1\n0 1")


if __name__ == "__main__":
    unittest.main()
