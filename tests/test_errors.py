"""Point [2] and the interface of leftmaps/errors.py."""

import unittest

from leftmaps import errors
from tests.samples import wrong_values

FIELDS = {
    "BadPlaces": "value", "BadPlace": "value", "BadLot": "value", "BadTurns": "place", "BadSpots": "place",
    "BadNet": "value", "BadRound": "value", "BadClaim": "value", "BadFacts": "number", "BadNumber": "value",
    "BadPaper": "place", "BadText": "line", "Quarrel": "tree", "TooMany": "most",
}


class ErrorsTest(unittest.TestCase):

    def test_each_class_stands_straight_under_its_own(self):
        self.assertEqual(errors.MapError.__bases__, (ValueError,))
        self.assertEqual(errors.Quarrel.__bases__, (LookupError,))
        self.assertEqual(errors.TooMany.__bases__, (OverflowError,))
        for name in FIELDS:
            if name not in ("Quarrel", "TooMany"):
                self.assertEqual(getattr(errors, name).__bases__, (errors.MapError,), name)

    def test_field_by_position_and_by_name(self):
        for name, field in FIELDS.items():
            made = getattr(errors, name)
            for value in wrong_values():
                self.assertIs(getattr(made(value), field), value, name)
                self.assertIs(getattr(made(**{field: value}), field), value, name)

    def test_the_field_is_needed_and_there_is_just_one(self):
        for name in FIELDS:
            made = getattr(errors, name)
            with self.assertRaises(TypeError):
                made()
            with self.assertRaises(TypeError):
                made(1, 2)
            self.assertEqual(list(vars(made(1))), [FIELDS[name]])

    def test_they_are_raised_and_caught(self):
        for name, field in FIELDS.items():
            made = getattr(errors, name)
            with self.assertRaises(made) as caught:
                raise made("x")
            self.assertEqual(getattr(caught.exception, field), "x")

    def test_no_class_is_missing_and_none_is_beside(self):
        found = [name for name, value in vars(errors).items() if isinstance(value, type)]
        self.assertEqual(sorted(found), sorted([*FIELDS, "MapError"]))


if __name__ == "__main__":
    unittest.main()
