"""The errors ([0.2], the interface)."""

import unittest

from common import Case, DEEP
from roundorlist import errors

UNDER = (
    "BadMany", "BadRow", "BadRows", "BadLot", "BadTable", "BadOrder", "BadSigns", "BadLadder", "Unlike", "TooMany",
    "NotLed", "Barred", "BadNumber", "NotTight", "BadPrices", "BadLadders", "BadSeen", "NoCouncil", "BadMotion",
    "BadWorld", "NoMotion", "NothingBack", "NothingAgain", "Full", "NoPlan", "Level", "HasRow", "NoRow", "BadText",
    "NoName", "Twice", "TooDeep", "BadNames", "NoStart", "BadMinutes",
)


class Errors(Case):

    def test_refused_stands_straight_under_value_error(self):
        self.assertEqual(errors.Refused.__bases__, (ValueError,))

    def test_all_others_stand_straight_under_refused(self):
        for name in UNDER:
            self.assertEqual(getattr(errors, name).__bases__, (errors.Refused,), name)

    def test_the_classes_are_unlike(self):
        self.assertEqual(len({getattr(errors, name) for name in UNDER}), 35)

    def test_each_is_defined_in_the_file_under_its_name(self):
        for name in ("Refused",) + UNDER:
            self.assertEqual(getattr(errors, name).__module__, "roundorlist.errors")
            self.assertEqual(getattr(errors, name).__name__, name)

    def test_there_are_no_others(self):
        found = [name for name, value in vars(errors).items() if isinstance(value, type)]
        self.assertEqual(sorted(found), sorted(("Refused",) + UNDER))

    def test_each_keeps_its_one_argument_in_what(self):
        for name in ("Refused",) + UNDER:
            for what in (0, -1, True, None, "text", (1, (2, 3)), DEEP):
                self.assertIs(getattr(errors, name)(what).what, what)
            self.assertEqual(getattr(errors, name)(what=5).what, 5)

    def test_each_takes_just_one_argument(self):
        for name in ("Refused",) + UNDER:
            self.assertRaises(TypeError, getattr(errors, name))
            self.assertRaises(TypeError, getattr(errors, name), 1, 2)

    def test_each_can_be_caught_as_refused_and_as_value_error(self):
        for name in UNDER:
            for kind in (errors.Refused, ValueError):
                with self.assertRaises(kind):
                    raise getattr(errors, name)(3)


if __name__ == "__main__":
    unittest.main()
