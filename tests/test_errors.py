import unittest

from allwordlengths import errors
from plain import odd_values

FIELDS = {
    "BadText": "text", "BadStep": "index", "BadNumber": "number", "BadSize": "size", "BadBits": "index",
    "BadLetter": "letter", "TooMany": "most", "TooLarge": "most", "NotMoves": "index", "BadChoice": "choice",
    "BadPlace": "place", "BadLook": "index", "BadName": "name", "NoName": "name", "BadLine": "number",
}
WITHOUT_FIELD = ("NothingToUndo", "NothingToRedo")


class ErrorsTest(unittest.TestCase):
    """Point 2: the error classes."""

    def test_words_error_is_a_value_error(self):
        self.assertEqual(errors.WordsError.__bases__, (ValueError,))

    def test_each_class_stands_directly_below_words_error(self):
        for name in [*FIELDS, *WITHOUT_FIELD]:
            with self.subTest(name):
                made = getattr(errors, name)
                self.assertEqual(made.__bases__, (errors.WordsError,))
                self.assertEqual(made.__module__, "allwordlengths.errors")

    def test_there_are_no_other_errors(self):
        found = [name for name, value in vars(errors).items() if isinstance(value, type)]
        self.assertEqual(sorted(found), sorted(["WordsError", *FIELDS, *WITHOUT_FIELD]))

    def test_fields_hold_any_value(self):
        values = [*odd_values(), 0, -1, 10 ** 5000, "", "turn", "\n", "{}", "\u20ac"]
        for name, field in FIELDS.items():
            for value in values:
                error = getattr(errors, name)(value)
                self.assertIs(getattr(error, field), value)
                self.assertEqual(list(vars(error)), [field])
                self.assertIsInstance(str(error), str)

    def test_fields_may_be_named(self):
        for name, field in FIELDS.items():
            self.assertEqual(getattr(getattr(errors, name)(**{field: 3}), field), 3)

    def test_errors_without_field(self):
        for name in WITHOUT_FIELD:
            self.assertEqual(vars(getattr(errors, name)()), {})

    def test_one_error_is_not_caught_as_another(self):
        for name in FIELDS:
            for other in [*FIELDS, *WITHOUT_FIELD]:
                if other != name:
                    self.assertNotIsInstance(getattr(errors, name)(1), getattr(errors, other))


if __name__ == "__main__":
    unittest.main()
