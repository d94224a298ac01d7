"""The interface, errors.py."""

import unittest

from bitdraws.errors import DrawError, NoBits, NoPlace, NoShares, NoStep, NoText

REFUSALS = (NoBits, NoShares, NoPlace, NoStep, NoText)


class ErrorsTest(unittest.TestCase):
    def test_any_refusal_is_a_value_error(self):
        self.assertTrue(issubclass(DrawError, ValueError))

    def test_each_stands_below_draw_error_and_is_another(self):
        for refusal in REFUSALS:
            self.assertTrue(issubclass(refusal, DrawError), refusal)
            self.assertIsNot(refusal, DrawError)
            self.assertFalse(issubclass(DrawError, refusal), refusal)

    def test_none_stands_below_another(self):
        for one in REFUSALS:
            for other in REFUSALS:
                self.assertEqual(issubclass(one, other), one.__name__ == other.__name__, (one, other))

    def test_each_has_its_name(self):
        names = [refusal.__name__ for refusal in REFUSALS]
        self.assertEqual(names, ["NoBits", "NoShares", "NoPlace", "NoStep", "NoText"])

    def test_each_is_raised_with_words_of_its_own(self):
        for refusal in (DrawError,) + REFUSALS:
            with self.assertRaises(DrawError) as caught:
                raise refusal("some words")
            self.assertIs(type(caught.exception), refusal)
            self.assertEqual(str(caught.exception), "some words")


if __name__ == "__main__":
    unittest.main()
