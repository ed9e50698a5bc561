import unittest

from streakdays import errors

NAMES = [
    "BadWords", "BadRules", "BadDays", "BadDay", "BadStretch", "BadDevice", "BadMinute", "BadZone", "BadEntry",
    "Unlike", "TooMany",
]


class ErrorsTest(unittest.TestCase):
    def test_all_stand_straight_under_one(self):
        self.assertEqual(errors.StreakError.__bases__, (ValueError,))
        for name in NAMES:
            self.assertEqual(getattr(errors, name).__bases__, (errors.StreakError,), name)
