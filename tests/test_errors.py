"""Point 5: the errors."""

import unittest

from cuptalk import errors

WITH_ONE_STRING = (
    "InvalidSize", "InvalidResults", "InvalidClaims", "InvalidCup", "InvalidPlayer", "InvalidNumber", "InvalidTalk",
    "TooLarge", "NothingToUndo",
)
WITH_A_FIELD = (("NotFitting", "obstacle"), ("InvalidText", "word"))


class ErrorsTest(unittest.TestCase):

    def all_errors(self):
        names = list(WITH_ONE_STRING) + [name for name, _ in WITH_A_FIELD]
        return [getattr(errors, name) for name in names]

    def test_talk_error_is_a_value_error(self):
        self.assertEqual((ValueError,), errors.TalkError.__bases__)

    def test_all_others_are_direct_subclasses(self):
        for error in self.all_errors():
            self.assertEqual((errors.TalkError,), error.__bases__, error)
        self.assertEqual(11, len(set(self.all_errors())))

    def test_they_are_defined_in_their_file(self):
        for error in self.all_errors() + [errors.TalkError]:
            self.assertEqual("cuptalk.errors", error.__module__)

    def test_nine_are_made_with_one_string(self):
        for name in WITH_ONE_STRING:
            error = getattr(errors, name)("some words")
            self.assertEqual("some words", str(error))

    def test_two_keep_their_argument(self):
        for name, field in WITH_A_FIELD:
            error = getattr(errors, name)
            for value in (0, 17, None, ("twice", 0, 1, 2), ("ring", [0, 1])):
                self.assertEqual(value, getattr(error(value), field))
                self.assertEqual(value, getattr(error(**{field: value}), field))

    def test_each_is_caught_by_its_name_and_by_no_other(self):
        for error in self.all_errors():
            with self.assertRaises(error):
                raise error("x")
            for other in self.all_errors():
                self.assertEqual(error is other, isinstance(error("x"), other))
            self.assertIsInstance(error("x"), errors.TalkError)
            self.assertIsInstance(error("x"), ValueError)


if __name__ == "__main__":
    unittest.main()
