"""The error classes of the interface."""

import unittest

from mustrows.errors import MustError, NoRow, NoText


class ErrorClasses(unittest.TestCase):
    def test_any_refusal_is_a_value_error(self):
        self.assertTrue(issubclass(MustError, ValueError))

    def test_each_refusal_is_a_must_error(self):
        for refusal in (NoText, NoRow):
            with self.subTest(refusal=refusal):
                self.assertTrue(issubclass(refusal, MustError))
                with self.assertRaises(MustError):
                    raise refusal("refused")

    def test_neither_refusal_stands_under_the_other(self):
        self.assertFalse(issubclass(NoText, NoRow))
        self.assertFalse(issubclass(NoRow, NoText))


if __name__ == "__main__":
    unittest.main()
