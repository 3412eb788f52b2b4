"""Tests of slidetray/errors.py."""

import unittest

from slidetray import errors

KINDS = ("BadTray", "BadSlides", "Unlike")


class Errors(unittest.TestCase):
    def test_tray_error_is_straight_under_value_error(self):
        self.assertEqual(errors.TrayError.__bases__, (ValueError,))

    def test_the_kinds_are_straight_under_tray_error(self):
        for name in KINDS:
            with self.subTest(name=name):
                kind = getattr(errors, name)
                self.assertEqual(kind.__bases__, (errors.TrayError,))

    def test_they_are_defined_in_their_file(self):
        for name in ("TrayError",) + KINDS:
            with self.subTest(name=name):
                kind = getattr(errors, name)
                self.assertEqual(kind.__name__, name)
                self.assertEqual(kind.__module__, "slidetray.errors")

    def test_they_can_be_raised_and_caught_as_value_errors(self):
        for name in ("TrayError",) + KINDS:
            with self.subTest(name=name):
                with self.assertRaises(ValueError):
                    raise getattr(errors, name)("why")


if __name__ == "__main__":
    unittest.main()
