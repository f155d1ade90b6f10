"""The refusals: the end of point 2, and the interface's first row."""

import unittest

from touchboats import errors
from touchboats.errors import BadTell, BoatError, NoLine, NotTold, NoText, Told

REFUSALS = (BadTell, Told, NotTold, NoText, NoLine)


class Refusals(unittest.TestCase):
    def test_boat_error_is_straight_under_value_error(self):
        self.assertEqual(BoatError.__bases__, (ValueError,))

    def test_each_is_straight_under_boat_error(self):
        for refusal in REFUSALS:
            self.assertEqual(refusal.__bases__, (BoatError,), refusal)

    def test_none_is_under_another(self):
        self.assertEqual(len(set(REFUSALS)), 5)
        for one in REFUSALS:
            for other in REFUSALS:
                self.assertEqual(issubclass(one, other), one is other, (one, other))

    def test_they_bear_their_names(self):
        for name in ("BoatError", "BadTell", "Told", "NotTold", "NoText", "NoLine"):
            self.assertEqual(getattr(errors, name).__name__, name)

    def test_each_is_made_with_a_text_and_taken_as_what_it_is(self):
        for refusal in REFUSALS:
            for other in REFUSALS:
                try:
                    raise refusal("why not")
                except other as error:
                    self.assertIs(refusal, other)
                    self.assertEqual(str(error), "why not")
                except BoatError as error:
                    self.assertIsNot(refusal, other)
                    self.assertIsInstance(error, ValueError)


if __name__ == "__main__":
    unittest.main()
