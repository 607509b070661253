"""The refusals: what they stand under, and their fields."""

import unittest

from loomwright import errors

MADE = {
    "BadRow": (("row", "word"), (3, 2)),
    "BadWord": (("place",), (7,)),
    "TooMany": (("what", "many"), ("shafts", 17)),
    "NotPlain": (("what", "number"), ("end", 4)),
    "NotGrown": (("row", "column"), (5, 6)),
    "BadDraft": ((), ("some words",)),
    "BadCloth": ((), ("some words",)),
    "OutOfPlace": ((), ("some words",)),
}


class Refusals(unittest.TestCase):
    def test_any_refusal_is_a_value_error(self):
        self.assertEqual(errors.LoomError.__bases__, (ValueError,))

    def test_each_stands_straight_under_loom_error(self):
        for name in MADE:
            with self.subTest(name):
                self.assertEqual(getattr(errors, name).__bases__, (errors.LoomError,))

    def test_none_stands_under_another_one(self):
        for one in MADE:
            for other in MADE:
                if one != other:
                    self.assertFalse(issubclass(getattr(errors, one), getattr(errors, other)), (one, other))

    def test_each_is_raised_and_taken(self):
        for name, (_, given) in MADE.items():
            for taken in (ValueError, errors.LoomError, getattr(errors, name)):
                with self.subTest(name), self.assertRaises(taken):
                    raise getattr(errors, name)(*given)

    def test_the_fields(self):
        for name, (fields, given) in MADE.items():
            error = getattr(errors, name)(*given)
            for field, value in zip(fields, given):
                with self.subTest(name, field=field):
                    self.assertEqual(getattr(error, field), value)

    def test_the_arguments_by_name(self):
        for name, (fields, given) in MADE.items():
            if fields:
                error = getattr(errors, name)(**dict(zip(fields, given)))
                self.assertEqual(tuple(getattr(error, field) for field in fields), given)

    def test_each_can_be_shown(self):
        for name, (_, given) in MADE.items():
            self.assertNotEqual(str(getattr(errors, name)(*given)), "", name)
