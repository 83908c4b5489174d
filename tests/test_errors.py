"""The refusals: a class for each, none under another one."""

import unittest

from numbergaps import errors

NAMES = [
    "NoOffice", "NoDesk", "Stopped", "NoRoom", "NoCount", "NoWord", "Short",
    "NoNumber", "Twice", "NotThere", "NoWorld", "NoBox",
]


class Refusals(unittest.TestCase):
    def test_the_common_class_is_a_value_error(self):
        self.assertEqual(errors.GapError.__bases__, (ValueError,))

    def test_each_class_stands_straight_under_the_common_one(self):
        for name in NAMES:
            with self.subTest(name):
                found = getattr(errors, name)
                self.assertEqual(found.__bases__, (errors.GapError,))
                self.assertEqual(found.__name__, name)
                self.assertEqual(found.__module__, "numbergaps.errors")


if __name__ == "__main__":
    unittest.main()
