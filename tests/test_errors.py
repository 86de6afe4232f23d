import unittest

from surewatch import errors

FIELDS = {
    "NoText": ("at",), "NoPaper": ("place", "word"), "NoWatch": ("word", "number"), "NoJoin": ("word", "number"),
    "NoBeside": ("word", "number"), "NoRing": ("word", "number"), "TooMany": ("word",), "NoName": ("name",),
    "Twice": ("name",), "NoHappening": ("text",), "NoRow": ("text",),
}


class ErrorsTest(unittest.TestCase):

    def test_base_is_a_value_error(self):
        self.assertEqual(errors.SureError.__bases__, (ValueError,))

    def test_each_stands_straight_under_the_base(self):
        for name in FIELDS:
            self.assertEqual(getattr(errors, name).__bases__, (errors.SureError,), name)

    def test_each_is_made_of_its_fields_in_their_order(self):
        for name, fields in FIELDS.items():
            values = [f"value {number}" for number in range(len(fields))]
            error = getattr(errors, name)(*values)
            self.assertEqual([getattr(error, field) for field in fields], values, name)
            self.assertEqual(list(vars(error)), list(fields), name)

    def test_each_is_made_of_just_its_fields(self):
        for name, fields in FIELDS.items():
            for count in (len(fields) - 1, len(fields) + 1):
                with self.assertRaises(TypeError, msg=name):
                    getattr(errors, name)(*["word"] * count)

    def test_each_is_taken_as_any_refusal(self):
        for name, fields in FIELDS.items():
            with self.assertRaises(errors.SureError):
                raise getattr(errors, name)(*["word"] * len(fields))
