"""The errors of the interface: their bases, their fields and their values."""

import unittest

from canpath import errors
from tests.makers import NUMBERS, STRANGE, S

FIELDS = {
    "TooLarge": ("bound",), "BadLoad": ("value",), "TooMuch": (), "Missing": ("place",), "BadGarden": ("error",),
    "BadTrip": ("value",), "TooWet": ("place",), "Busy": (), "TooManyEdits": (), "BadPlace": ("value",),
    "BadLitres": ("value",), "TooManyBeds": (), "BadCan": ("value",), "NothingToUndo": (), "BadEdits": (),
    "BadEdit": ("index",), "Rejected": ("index",), "BadNumber": ("value",), "TooLong": ("number",),
    "BadText": ("index",), "NoPlace": ("value",), "NoVersion": ("value",),
}
LOOKUPS = ("NoPlace", "NoVersion")


class Errors(unittest.TestCase):
    def test_the_base(self):
        self.assertEqual(errors.PathError.__bases__, (ValueError,))

    def test_bases(self):
        for name in FIELDS:
            made = getattr(errors, name)
            with self.subTest(name=name):
                self.assertEqual(made.__module__, "canpath.errors")
                self.assertEqual(made.__name__, name)
                if name in LOOKUPS:
                    self.assertEqual(made.__bases__, (LookupError,))
                else:
                    self.assertTrue(issubclass(made, errors.PathError))
                    self.assertFalse(issubclass(made, LookupError))

    def test_errors_of_a_look_up_are_no_value_errors(self):
        for name in LOOKUPS:
            self.assertFalse(issubclass(getattr(errors, name), ValueError))

    def test_none_derives_from_another(self):
        for name in FIELDS:
            for other in FIELDS:
                if name != other:
                    with self.subTest(name=name, other=other):
                        self.assertFalse(issubclass(getattr(errors, name), getattr(errors, other)))

    def test_fields_have_the_very_values(self):
        values = STRANGE + NUMBERS + (S, [S, {"a": [True]}], object())
        for name, fields in FIELDS.items():
            for value in values:
                # Each value must keep its kind: True stays True, a list stays that list.
                error = getattr(errors, name)(*[value for _ in fields])
                with self.subTest(name=name, value=repr(value)[:80]):
                    self.assertEqual(sorted(vars(error)), sorted(fields))
                    for field in fields:
                        self.assertIs(getattr(error, field), value)

    def test_each_error_has_its_own_values(self):
        one, other = errors.TooWet(1), errors.TooWet(2)
        self.assertEqual((one.place, other.place), (1, 2))

    def test_fewer_or_more_fields_are_not_taken(self):
        for name, fields in FIELDS.items():
            if fields:
                with self.subTest(name=name):
                    self.assertRaises(TypeError, getattr(errors, name))
                    self.assertRaises(TypeError, getattr(errors, name), 1, 2)

    def test_raised_and_caught(self):
        for name, fields in FIELDS.items():
            made = getattr(errors, name)
            with self.subTest(name=name):
                with self.assertRaises(LookupError if name in LOOKUPS else errors.PathError) as caught:
                    raise made(*[7 for _ in fields])
                self.assertIs(type(caught.exception), made)
                self.assertEqual(repr(caught.exception), f"{name}({', '.join('7' for _ in fields)})")


if __name__ == "__main__":
    unittest.main()
