"""Tests of kindmeets.errors."""

import unittest

from kindmeets import errors


class Refusals(unittest.TestCase):
    def test_bead_error_stands_straight_under_value_error(self):
        self.assertEqual(errors.BeadError.__bases__, (ValueError,))

    def test_the_others_stand_straight_under_bead_error(self):
        for name in ("BadBeads", "BadMeeting", "BadKind", "TooMany"):
            with self.subTest(name):
                self.assertEqual(getattr(errors, name).__bases__, (errors.BeadError,))

    def test_each_is_defined_in_its_file(self):
        for name in ("BeadError", "BadBeads", "BadMeeting", "BadKind", "TooMany"):
            with self.subTest(name):
                self.assertEqual(getattr(errors, name).__module__, "kindmeets.errors")
                self.assertEqual(getattr(errors, name).__name__, name)


if __name__ == "__main__":
    unittest.main()
