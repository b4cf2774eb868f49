"""The interface of nearlaid/errors.py."""

import unittest

from nearlaid import errors

OF_A_TEXT = ("NoNumber", "NoName", "NoRow", "NoAsk", "NoBound", "TooMany", "NoSums")
REFUSALS = OF_A_TEXT + ("NoTable",)


class Errors(unittest.TestCase):
    def test_near_error_is_a_value_error(self):
        self.assertEqual(errors.NearError.__bases__, (ValueError,))
        self.assertEqual(str(errors.NearError("why")), "why")

    def test_each_stands_under_near_error_and_no_other(self):
        for name in REFUSALS:
            with self.subTest(name):
                kind = getattr(errors, name)
                self.assertTrue(issubclass(kind, errors.NearError))
                self.assertTrue(issubclass(kind, ValueError))
                for other in REFUSALS:
                    if other != name:
                        self.assertFalse(issubclass(kind, getattr(errors, other)))

    def test_made_of_a_text(self):
        for name in OF_A_TEXT:
            with self.subTest(name):
                made = getattr(errors, name)("some words")
                self.assertEqual(str(made), "some words")
                with self.assertRaises(errors.NearError):
                    raise made

    def test_no_table_keeps_its_row(self):
        for row in (0, 1, 10):
            made = errors.NoTable(row)
            self.assertEqual(made.row, row)
            self.assertIs(type(made.row), int)
            with self.assertRaises(ValueError):
                raise made


if __name__ == "__main__":
    unittest.main()
