"""The classes of cellpictures/errors.py: what they are and what they hold."""

import inspect
import unittest

from cellpictures import errors
from tests.helping import things

FIELDS = {
    "InvalidNumber": "thing", "InvalidWay": "thing", "InvalidCondition": "place", "InvalidPicture": "thing",
    "InvalidWays": "thing", "InvalidRules": "place", "InvalidLasts": "place", "InvalidSymmetries": "name",
    "InvalidBook": "thing", "InvalidMap": "thing", "InvalidEnds": "thing", "InvalidCell": "thing",
    "InvalidSigns": "name", "InvalidSide": "thing", "InvalidDrawing": "thing",
    "UnlikeBooks": None, "MissingPicture": None, "NothingDone": None,
}


class ErrorsTest(unittest.TestCase):
    def test_picture_error_is_directly_beneath_value_error(self):
        self.assertEqual(errors.PictureError.__bases__, (ValueError,))

    def test_each_class_is_directly_beneath_picture_error(self):
        for name in FIELDS:
            with self.subTest(name=name):
                self.assertEqual(getattr(errors, name).__bases__, (errors.PictureError,))

    def test_each_class_is_defined_in_the_file(self):
        for name in ["PictureError", *FIELDS]:
            with self.subTest(name=name):
                self.assertEqual(getattr(errors, name).__module__, "cellpictures.errors")
                self.assertEqual(getattr(errors, name).__name__, name)

    def test_there_are_no_other_classes(self):
        names = [name for name, _ in inspect.getmembers(errors, inspect.isclass)]
        self.assertEqual(sorted(names), sorted(["PictureError", *FIELDS]))

    def test_field_by_place_and_by_name_is_what_was_given(self):
        for name, field in FIELDS.items():
            for thing in things() if field else []:
                with self.subTest(name=name, thing=repr(thing)[:80]):
                    self.check_held(getattr(errors, name)(thing), field, thing)
                    self.check_held(getattr(errors, name)(**{field: thing}), field, thing)

    def check_held(self, error, field, thing):
        self.assertEqual(vars(error), {field: thing})
        self.assertIs(type(getattr(error, field)), type(thing))

    def test_each_object_has_its_own_field(self):
        first, second = errors.InvalidWay(8), errors.InvalidWay(-1)
        self.assertEqual((first.thing, second.thing), (8, -1))

    def test_field_is_wanted_and_alone(self):
        for name, field in FIELDS.items():
            if field:
                with self.subTest(name=name):
                    self.assertRaises(TypeError, getattr(errors, name))
                    self.assertRaises(TypeError, getattr(errors, name), 1, 2)
                    self.assertRaises(TypeError, getattr(errors, name), **{"another": 1})

    def test_errors_without_fields(self):
        for name, field in FIELDS.items():
            if not field:
                with self.subTest(name=name):
                    self.assertEqual(vars(getattr(errors, name)()), {})

    def test_each_is_caught_as_picture_error_and_as_value_error(self):
        for name, field in FIELDS.items():
            error = getattr(errors, name)(*([0] if field else []))
            for wider in (errors.PictureError, ValueError):
                with self.subTest(name=name, wider=wider.__name__):
                    with self.assertRaises(wider) as caught:
                        raise error
                    self.assertIs(caught.exception, error)


if __name__ == "__main__":
    unittest.main()
