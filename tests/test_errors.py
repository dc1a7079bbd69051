import copy
import unittest

from leftasleep import errors
from values import odd_values

# Each error with the name of what it is made with, None where that is nothing.
FIELDS = {
    "Unfit": None,
    "BadBook": "error",
    "BadPrograms": "error",
    "BadMove": "error",
    "BadRun": "error",
    "BadText": "place",
    "BadLog": "place",
    "Refused": "word",
    "TooMany": "limit",
    "TooManyEdits": None,
    "NothingToUndo": None,
}


def classes():
    return [(getattr(errors, name), field) for name, field in FIELDS.items()]


class ErrorsTest(unittest.TestCase):
    """The interface: errors.py."""

    def test_sleep_error_stands_directly_under_value_error(self):
        self.assertEqual(errors.SleepError.__bases__, (ValueError,))

    def test_each_stands_directly_under_sleep_error(self):
        for made, _ in classes():
            self.assertEqual(made.__bases__, (errors.SleepError,), made)
            self.assertTrue(issubclass(made, ValueError), made)

    def test_none_stands_under_another_one(self):
        for made, _ in classes():
            for other, _ in classes():
                self.assertEqual(issubclass(made, other), made is other, (made, other))

    def test_there_are_no_others(self):
        found = {name for name, value in vars(errors).items() if isinstance(value, type)}
        self.assertEqual(found, {"SleepError", *FIELDS})

    def test_arguments_by_place(self):
        for made, field in classes():
            for value in odd_values() if field else []:
                self.assertIs(getattr(made(value), field), value)

    def test_arguments_by_name(self):
        for made, field in classes():
            for value in odd_values() if field else []:
                self.assertIs(getattr(made(**{field: value}), field), value)

    def test_what_is_passed_is_kept_as_it_is(self):
        for made, field in classes():
            for value in odd_values() if field else []:
                before = copy.deepcopy(value)
                self.assertEqual(getattr(made(value), field), before)
                self.assertEqual(value, before)

    def test_those_without_arguments(self):
        for made, field in classes():
            if field is None:
                self.assertIsInstance(made(), errors.SleepError)

    def test_their_argument_has_to_be_told(self):
        for made, field in classes():
            if field:
                self.assertRaises(TypeError, made)

    def test_they_can_be_raised_and_caught(self):
        for made, field in classes():
            for caught in (made, errors.SleepError, ValueError):
                with self.assertRaises(caught) as held:
                    raise made(("entry", "note")) if field else made()
                self.assertIs(type(held.exception), made)
                if field:
                    self.assertEqual(getattr(held.exception, field), ("entry", "note"))

    def test_their_words_can_be_told(self):
        for made, field in classes():
            told = [made(value) for value in odd_values()] if field else [made()]
            for error in told:
                self.assertIsInstance(str(error), str)
                self.assertIsInstance(repr(error), str)


if __name__ == "__main__":
    unittest.main()
