"""Tests of faremachines.errors ([1.1])."""

import unittest

from faremachines import errors


class ErrorsTest(unittest.TestCase):
    def test_each_class_stands_directly_under_the_base(self):
        self.assertEqual(errors.FareError.__bases__, (ValueError,))
        for name in ("NotAllowed", "TooLarge", "Missing", "BadPaper", "BadForm", "Broken"):
            self.assertEqual(getattr(errors, name).__bases__, (errors.FareError,), name)

    def test_attributes(self):
        self.assertEqual(errors.BadForm(7).line, 7)
        broken = errors.Broken(3, -1)
        self.assertEqual((broken.number, broken.fare), (3, -1))

    def test_messages_tell_what_is_wrong(self):
        self.assertIn("7", str(errors.BadForm(7)))
        self.assertIn("12", str(errors.Broken(3, 12)))

    def test_errors_can_be_raised_without_words(self):
        for name in ("FareError", "NotAllowed", "TooLarge", "Missing", "BadPaper"):
            with self.assertRaises(errors.FareError):
                raise getattr(errors, name)()
