"""Points 1 and 2: the error classes."""

import unittest

from hornbook import errors

BASES = {
    "HornbookError": ValueError,
    "TooLarge": errors.HornbookError,
    "BadTerm": errors.HornbookError,
    "BadText": errors.HornbookError,
    "BadOperator": errors.HornbookError,
    "BadClause": errors.HornbookError,
    "NotDefinite": errors.HornbookError,
    "NotAccepted": errors.HornbookError,
    "Forgotten": errors.HornbookError,
    "Closed": errors.HornbookError,
    "TablesFull": errors.TooLarge,
    "TooMany": errors.TooLarge,
    "BadProblem": errors.HornbookError,
}


class Errors(unittest.TestCase):

    def test_bases(self):
        for name, base in BASES.items():
            with self.subTest(name):
                self.assertEqual(getattr(errors, name).__bases__, (base,))

    def test_defined_in_their_file(self):
        for name in BASES:
            with self.subTest(name):
                self.assertEqual(getattr(errors, name).__module__, "hornbook.errors")

    def test_any_other_error_class_derives_from_the_base_class_alone(self):
        for name, value in vars(errors).items():
            if isinstance(value, type) and issubclass(value, Exception) and name not in BASES:
                self.assertEqual(value.__bases__, (errors.HornbookError,))

    def test_made_with_a_text(self):
        for name in BASES:
            if name != "BadText":
                with self.subTest(name):
                    error = getattr(errors, name)("told")
                    self.assertIsInstance(error, errors.HornbookError)
                    self.assertIsInstance(error, ValueError)

    def test_bad_text_has_the_index(self):
        for at in (0, 7, 123456):
            error = errors.BadText(at)
            self.assertEqual(error.at, at)
            self.assertIsInstance(error.at, int)

    def test_each_error_can_be_caught_by_the_base_class(self):
        for name in BASES:
            with self.assertRaises(errors.HornbookError):
                raise getattr(errors, name)(3 if name == "BadText" else "told")


if __name__ == "__main__":
    unittest.main()
