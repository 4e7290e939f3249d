import unittest

from lateslips import errors
from lateslips.errors import InvalidCommand, SlipsError

WITH_AT = ("InvalidMachine", "InvalidRow", "InvalidSlip", "InvalidQuestion", "InvalidText", "Blind", "Heavy", "Refused")


class ErrorsTest(unittest.TestCase):
    def test_all_are_direct_subclasses(self):
        self.assertEqual(SlipsError.__bases__, (ValueError,))
        for name in WITH_AT + ("InvalidCommand",):
            self.assertEqual(getattr(errors, name).__bases__, (SlipsError,), name)

    def test_at_is_kept_whatever_it_is(self):
        for name in WITH_AT:
            for at in (0, 7, None, "x", [1], True):
                error = getattr(errors, name)(at)
                self.assertIs(error.at, at)
                self.assertIs(getattr(errors, name)(at=at).at, at)

    def test_an_argument_is_asked(self):
        for name in WITH_AT:
            with self.assertRaises(TypeError):
                getattr(errors, name)()

    def test_invalid_command_has_none(self):
        self.assertFalse(hasattr(InvalidCommand(), "at"))

    def test_errors_equal_no_other_kind(self):
        self.assertNotEqual(errors.Refused(0), 0)


if __name__ == "__main__":
    unittest.main()
