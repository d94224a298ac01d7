"""Point 0.4: fractions."""

import math
import unittest
from fractions import Fraction

from bitdraws.fractions import common_divisor, fraction, minus, over, plus, times

SOME = [(upper, lower) for upper in range(-7, 8) for lower in range(1, 8) if math.gcd(upper, lower) == 1]


class FractionsTest(unittest.TestCase):
    def assert_is(self, told, wanted):
        self.assertIs(type(told), tuple)
        self.assertEqual([type(part) for part in told], [int, int])
        self.assertEqual(told, (wanted.numerator, wanted.denominator))

    def test_common_divisor(self):
        for one in range(-30, 31):
            for other in range(-30, 31):
                self.assertEqual(common_divisor(one, other), math.gcd(one, other), (one, other))

    def test_made_without_a_common_divisor(self):
        self.assertEqual(fraction(6, 4), (3, 2))
        self.assertEqual(fraction(4, 6), (2, 3))
        self.assertEqual(fraction(3, 5), (3, 5))
        self.assertEqual(fraction(12, 4), (3, 1))
        self.assertEqual(fraction(7, 7), (1, 1))

    def test_nought(self):
        for lower in (1, 2, 9, -1, -6, 10 ** 50):
            self.assertEqual(fraction(0, lower), (0, 1))

    def test_lower_is_from_1_on(self):
        self.assertEqual(fraction(3, -6), (-1, 2))
        self.assertEqual(fraction(-3, -6), (1, 2))
        self.assertEqual(fraction(-3, 6), (-1, 2))
        self.assertEqual(fraction(5, -1), (-5, 1))

    def test_made_of_all_small_numbers(self):
        for upper in range(-25, 26):
            for lower in list(range(-25, 0)) + list(range(1, 26)):
                self.assert_is(fraction(upper, lower), Fraction(upper, lower))

    def test_made_of_far_numbers(self):
        upper = 6 * 7 ** 400
        lower = 10 * 7 ** 390
        self.assertEqual(fraction(upper, lower), (3 * 7 ** 10, 5))

    def test_no_lower_number_0(self):
        for upper in (-2, 0, 1, 5):
            with self.assertRaises(ZeroDivisionError):
                fraction(upper, 0)

    def test_by_hand(self):
        self.assertEqual(plus((1, 6), (1, 3)), (1, 2))
        self.assertEqual(minus((1, 2), (1, 6)), (1, 3))
        self.assertEqual(times((2, 3), (3, 4)), (1, 2))
        self.assertEqual(over((1, 2), (3, 4)), (2, 3))

    def test_nought_of_reckoning(self):
        self.assertEqual(plus((1, 3), (-1, 3)), (0, 1))
        self.assertEqual(minus((5, 8), (5, 8)), (0, 1))
        self.assertEqual(times((0, 1), (5, 8)), (0, 1))
        self.assertEqual(over((0, 1), (-5, 8)), (0, 1))

    def test_nothing_is_divided_by_nought(self):
        for one in ((0, 1), (1, 2), (-3, 1)):
            with self.assertRaises(ZeroDivisionError):
                over(one, (0, 1))

    def test_reckoning_with_all_small_fractions(self):
        for one in SOME:
            for other in SOME:
                first = Fraction(*one)
                second = Fraction(*other)
                self.assert_is(plus(one, other), first + second)
                self.assert_is(minus(one, other), first - second)
                self.assert_is(times(one, other), first * second)
                if other[0] != 0:
                    self.assert_is(over(one, other), first / second)


if __name__ == "__main__":
    unittest.main()
