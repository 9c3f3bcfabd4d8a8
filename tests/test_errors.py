"""The errors: their classes and their fields."""

import unittest

from deepstands import errors

FIELDS = {
    "Endless": [], "NoBack": [], "Unlike": [], "NoNumber": [], "NoGoal": [], "NoLine": [],
    "NoChart": ["wrong"], "NoStanding": ["wrong"], "NoHappening": ["what"], "Beyond": ["fact", "stand"],
    "NoText": ["row", "column"], "NoName": ["name"], "NoMove": ["number"], "NoSaying": ["wrong"],
    "TooGreat": ["most"], "Gone": ["name"], "Apart": ["one", "other"], "Moved": ["name"], "NoTitle": ["title"],
    "Taken": ["title"], "NoRun": ["title"], "NoLead": ["title", "wrong"],
}
WORTHS = [("a", 1), [None, True]]


class TestErrors(unittest.TestCase):
    def test_stand_error_is_straight_under_value_error(self):
        self.assertEqual(errors.StandError.__bases__, (ValueError,))
        self.assertEqual(errors.StandError.__module__, "deepstands.errors")
        with self.assertRaises(ValueError):
            raise errors.StandError()

    def test_all_are_straight_under_stand_error(self):
        for name in FIELDS:
            made = getattr(errors, name)
            self.assertEqual(made.__bases__, (errors.StandError,), name)
            self.assertEqual((made.__name__, made.__module__), (name, "deepstands.errors"))

    def test_there_are_no_others(self):
        classes = [name for name, thing in vars(errors).items() if isinstance(thing, type)]
        self.assertEqual(sorted(classes), sorted(["StandError", *FIELDS]))

    def test_fields_by_places(self):
        for name, fields in FIELDS.items():
            error = getattr(errors, name)(*WORTHS[:len(fields)])
            for field, worth in zip(fields, WORTHS):
                self.assertEqual(getattr(error, field), worth, (name, field))

    def test_fields_by_names(self):
        for name, fields in FIELDS.items():
            told = dict(zip(fields, WORTHS))
            error = getattr(errors, name)(**told)
            for field, worth in told.items():
                self.assertEqual(getattr(error, field), worth, (name, field))

    def test_fields_left_out(self):
        for name, fields in FIELDS.items():
            error = getattr(errors, name)()
            for field in fields:
                self.assertIsNone(getattr(error, field), (name, field))

    def test_some_fields_left_out(self):
        for name, fields in FIELDS.items():
            if len(fields) == 2:
                first = getattr(errors, name)(7)
                self.assertEqual((getattr(first, fields[0]), getattr(first, fields[1])), (7, None))
                second = getattr(errors, name)(**{fields[1]: 8})
                self.assertEqual((getattr(second, fields[0]), getattr(second, fields[1])), (None, 8))

    def test_other_fields_are_refused(self):
        for name, fields in FIELDS.items():
            with self.assertRaises(TypeError):
                getattr(errors, name)(nothing=1)

    def test_they_are_raised_and_caught_by_name(self):
        for name in FIELDS:
            with self.assertRaises(getattr(errors, name)):
                raise getattr(errors, name)()
            with self.assertRaises(errors.StandError):
                raise getattr(errors, name)()
