"""Tests of samerun.errors: all error classes and their attributes."""

import unittest

from samerun import errors

WITH_ATTRIBUTE = {"BadScheme": "part", "BadWorlds": "index", "BadText": "row", "BadDigits": "offset"}
PLAIN = [
    "BadKinds", "TooLarge", "BadNotes", "TooMany", "BadChoice", "BadMarks", "BadStep", "BadCell", "BadNumber",
    "NothingDone",
]


class ErrorClasses(unittest.TestCase):
    def test_the_base_is_a_value_error(self):
        self.assertEqual(errors.RunError.__bases__, (ValueError,))

    def test_all_are_direct_subclasses(self):
        for name in [*WITH_ATTRIBUTE, *PLAIN]:
            self.assertEqual(getattr(errors, name).__bases__, (errors.RunError,), name)

    def test_there_are_no_others(self):
        names = sorted(each.__name__ for each in errors.RunError.__subclasses__())
        self.assertEqual(names, sorted([*WITH_ATTRIBUTE, *PLAIN]))

    def test_attributes_are_set_when_an_error_is_created(self):
        for name, attribute in WITH_ATTRIBUTE.items():
            made = getattr(errors, name)(7)
            self.assertEqual(getattr(made, attribute), 7)
            self.assertIsNone(getattr(getattr(errors, name)(), attribute))

    def test_all_can_be_raised_and_caught_as_run_errors(self):
        for name in [*WITH_ATTRIBUTE, *PLAIN]:
            with self.assertRaises(errors.RunError):
                raise getattr(errors, name)("some words")

    def test_each_is_defined_in_this_file(self):
        for name in ["RunError", *WITH_ATTRIBUTE, *PLAIN]:
            self.assertEqual(getattr(errors, name).__module__, "samerun.errors")


if __name__ == "__main__":
    unittest.main()
