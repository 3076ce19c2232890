import unittest

from onepicture import errors
from tests.samples import strange_things

FIELDS = {
    "BadPlay": "part", "NoHand": None, "NoStep": None, "NoWeaving": "index", "NoManner": None, "NoCame": None,
    "NoTold": None, "TooMany": "most", "NoNumber": None, "NotWrong": None, "BadRecord": "index", "Unclear": "word",
    "NoLook": None, "NoOrder": None, "NoMoment": None, "BadText": "line", "NoThing": None, "NoLine": None,
    "NoName": "name",
}


class ErrorsTest(unittest.TestCase):
    def test_picture_error_derives_directly_from_value_error(self):
        self.assertEqual(errors.PictureError.__bases__, (ValueError,))

    def test_all_nineteen_derive_directly_from_picture_error(self):
        self.assertEqual(len(FIELDS), 19)
        for name in FIELDS:
            with self.subTest(name):
                self.assertEqual(getattr(errors, name).__bases__, (errors.PictureError,))

    def test_there_are_no_other_errors(self):
        found = {name for name, value in vars(errors).items() if isinstance(value, type)}
        self.assertEqual(found, set(FIELDS) | {"PictureError"})

    def test_fields_keep_whatever_is_passed_as_it_is(self):
        for name, field in FIELDS.items():
            if field is None:
                continue
            for thing in strange_things() + [(), [], [1, [2]], 1.5, {1}]:
                with self.subTest(name, thing=repr(thing)):
                    error = getattr(errors, name)(thing)
                    self.assertIs(getattr(error, field), thing)
                    self.assertEqual(list(vars(error)), [field])

    def test_errors_without_fields_are_made_with_nothing(self):
        for name, field in FIELDS.items():
            if field is None:
                with self.subTest(name):
                    self.assertEqual(vars(getattr(errors, name)()), {})

    def test_errors_are_made_with_just_their_fields(self):
        for name, field in FIELDS.items():
            too_many = (1,) if field is None else (1, 2)
            with self.subTest(name), self.assertRaises(TypeError):
                getattr(errors, name)(*too_many)
            if field is not None:
                with self.subTest(name), self.assertRaises(TypeError):
                    getattr(errors, name)()

    def test_errors_are_raised_and_caught_as_value_errors(self):
        for name, field in FIELDS.items():
            made = getattr(errors, name)() if field is None else getattr(errors, name)("what")
            with self.subTest(name), self.assertRaises(ValueError) as caught:
                raise made
            self.assertIs(caught.exception, made)

    def test_errors_are_equal_to_nothing_of_another_class(self):
        self.assertNotEqual(errors.NoHand(), errors.NoStep())
        self.assertNotEqual(errors.BadRecord(1), errors.NoWeaving(1))
        self.assertNotEqual(errors.NoWeaving(1), 1)


if __name__ == "__main__":
    unittest.main()
