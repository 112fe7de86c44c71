"""Promise [5]: the errors."""

import unittest

from tests.samples import ANY_VALUES
from wardsdrawn import errors

WORDED = ("InvalidLot", "InvalidPlace", "InvalidBounds", "InvalidCount", "InvalidPart", "Refused")
FIELDS = {
    "InvalidLand": "place", "InvalidPlan": "index", "InvalidPaper": "place", "InvalidText": "index",
    "InvalidCommand": "index", "TooMany": "count", "Unknown": "word", "Twice": "word",
}


class ErrorsTest(unittest.TestCase):

    def test_ward_error_stands_directly_under_value_error(self):
        self.assertEqual(errors.WardError.__bases__, (ValueError,))
        self.assertEqual(errors.WardError.__module__, "wardsdrawn.errors")

    def test_each_class_stands_directly_under_ward_error(self):
        for name in (*WORDED, *FIELDS):
            with self.subTest(name):
                made = getattr(errors, name)
                self.assertEqual(made.__bases__, (errors.WardError,))
                self.assertEqual((made.__name__, made.__module__), (name, "wardsdrawn.errors"))

    def test_six_are_made_with_one_free_string(self):
        for name in WORDED:
            for text in ("", "why", "two words"):
                with self.subTest(name, text=text):
                    made = getattr(errors, name)
                    with self.assertRaises(made) as caught:
                        raise made(text)
                    self.assertIs(type(caught.exception), made)

    def test_fields_keep_the_very_value_by_position(self):
        for name, field in FIELDS.items():
            for value in (*ANY_VALUES, (1, 0), 2000, "0-12"):
                with self.subTest(name, value=repr(value)[:80]):
                    self.assertIs(getattr(getattr(errors, name)(value), field), value)

    def test_fields_keep_the_very_value_by_name(self):
        for name, field in FIELDS.items():
            for value in (*ANY_VALUES, (1, 0), 2000, "0-12"):
                with self.subTest(name, value=repr(value)[:80]):
                    self.assertIs(getattr(getattr(errors, name)(**{field: value}), field), value)

    def test_a_raised_one_keeps_its_field(self):
        for name, field in FIELDS.items():
            with self.subTest(name):
                made = getattr(errors, name)
                with self.assertRaises(errors.WardError) as caught:
                    raise made([name])
                self.assertIs(type(caught.exception), made)
                self.assertEqual(getattr(caught.exception, field), [name])

    def test_two_objects_keep_two_values(self):
        for name, field in FIELDS.items():
            with self.subTest(name):
                first, second = getattr(errors, name)(1), getattr(errors, name)(2)
                self.assertEqual((getattr(first, field), getattr(second, field)), (1, 2))


if __name__ == "__main__":
    unittest.main()
