"""Point 25: the error classes."""

import copy
import unittest

from lateposts import errors
from tests.samples import HUGE, R, nested, odd_values

FIELDS = {
    "BadReceiver": "error",
    "BadNumber": "value",
    "BadStep": "value",
    "BadSize": "value",
    "BadCount": "value",
    "BadText": "index",
    "NoPlace": "value",
}
BARE = ("BadRow", "NoFit", "TooManyDeeds", "NothingToUndo", "Busy", "Halted")


class ErrorsTest(unittest.TestCase):
    def test_classes_are_defined_here(self):
        for name in ("PostError", *FIELDS, *BARE):
            with self.subTest(name):
                self.assertEqual(getattr(errors, name).__module__, "lateposts.errors")
                self.assertEqual(getattr(errors, name).__name__, name)

    def test_direct_bases(self):
        self.assertEqual(errors.PostError.__bases__, (ValueError,))
        self.assertEqual(errors.NoPlace.__bases__, (LookupError,))
        for name in (*FIELDS, *BARE):
            if name != "NoPlace":
                with self.subTest(name):
                    self.assertEqual(getattr(errors, name).__bases__, (errors.PostError,))

    def test_none_derives_from_another_one(self):
        for name in (*FIELDS, *BARE):
            for other in (*FIELDS, *BARE):
                if name != other:
                    with self.subTest(name=name, other=other):
                        self.assertFalse(issubclass(getattr(errors, name), getattr(errors, other)))
        self.assertFalse(issubclass(errors.NoPlace, ValueError))

    def test_field_is_the_very_object(self):
        values = odd_values() + [(), R, ((0, 1), "row"), nested(0, 20), object()]
        for name, field in FIELDS.items():
            for value in values:
                error = getattr(errors, name)(value)
                self.assertIs(getattr(error, field), value)

    def test_only_the_told_field_is_there(self):
        for name, field in FIELDS.items():
            with self.subTest(name):
                self.assertEqual(list(vars(getattr(errors, name)(0))), [field])
        for name in BARE:
            with self.subTest(name):
                self.assertEqual(vars(getattr(errors, name)()), {})

    def test_field_may_be_passed_by_its_name(self):
        for name, field in FIELDS.items():
            value = [name]
            error = getattr(errors, name)(**{field: value})
            self.assertIs(getattr(error, field), value)

    def test_fields_are_needed(self):
        for name in FIELDS:
            with self.subTest(name), self.assertRaises(TypeError):
                getattr(errors, name)()

    def test_bare_ones_and_the_base_are_made_of_nothing(self):
        for name in BARE:
            with self.subTest(name):
                self.assertIsInstance(getattr(errors, name)(), errors.PostError)
        self.assertIsInstance(errors.PostError(), ValueError)

    def test_raised_and_caught_by_their_bases(self):
        for name in FIELDS:
            value = [name]
            with self.assertRaises((errors.PostError, LookupError)) as caught:
                raise getattr(errors, name)(value)
            self.assertIs(getattr(caught.exception, FIELDS[name]), value)
        for name in BARE:
            with self.assertRaises(errors.PostError):
                raise getattr(errors, name)()

    def test_message_can_be_told_whatever_the_field_holds(self):
        for name in FIELDS:
            for value in (HUGE, "a" * 2000, nested(0, 20)):
                self.assertIsInstance(str(getattr(errors, name)(value)), str)

    def test_values_that_are_passed_stay_as_they_were(self):
        for name in FIELDS:
            value = [1, {"a": [2]}]
            before = copy.deepcopy(value)
            getattr(errors, name)(value)
            self.assertEqual(value, before)


if __name__ == "__main__":
    unittest.main()
