"""The classes of stablepapers.errors."""

import unittest

from stablepapers.errors import LimitError, StableError, TextError


class Errors(unittest.TestCase):
    def test_bases(self):
        self.assertEqual(StableError.__bases__, (ValueError,))
        self.assertEqual(TextError.__bases__, (StableError,))
        self.assertEqual(LimitError.__bases__, (StableError,))

    def test_text_error_has_its_place_and_its_words(self):
        error = TextError("no token fits", 7)
        self.assertEqual(error.at, 7)
        self.assertEqual(str(error), "no token fits")

    def test_each_is_caught_as_a_stable_error(self):
        for error in (TextError("why", 0), LimitError("why")):
            with self.assertRaises(StableError):
                raise error

    def test_the_two_kinds_are_different(self):
        self.assertFalse(issubclass(TextError, LimitError))
        self.assertFalse(issubclass(LimitError, TextError))


if __name__ == "__main__":
    unittest.main()
