"""Point 1.1, and what 0.3 says of it: rows of bits that are taken one by one."""

import itertools
import unittest

from bitdraws.bits import Bits
from bitdraws.errors import NoBits, NoPlace

ROW = (1, 0, 0, 1, 1)


class BitsTest(unittest.TestCase):
    def assert_stands(self, bits, used, left):
        # Twice, for being asked changes nothing.
        for turn in range(2):
            self.assertEqual((bits.used(), bits.left()), (used, left), turn)
            self.assertEqual((type(bits.used()), type(bits.left())), (int, int))

    def take(self, bits, many):
        return tuple(bits.take() for turn in range(many))

    def test_none_is_taken_at_first(self):
        self.assert_stands(Bits(ROW), 0, 5)

    def test_an_empty_row(self):
        bits = Bits(())
        self.assert_stands(bits, 0, 0)
        for turn in range(2):
            with self.assertRaises(NoBits):
                bits.take()
            self.assert_stands(bits, 0, 0)
        self.assertIsNone(bits.go_back(0))
        for many in (-1, 1):
            with self.assertRaises(NoPlace):
                bits.go_back(many)
            self.assert_stands(bits, 0, 0)

    def test_taken_one_by_one_to_the_end_and_more(self):
        bits = Bits(ROW)
        for place, bit in enumerate(ROW):
            self.assert_stands(bits, place, 5 - place)
            told = bits.take()
            self.assertIs(type(told), int)
            self.assertEqual(told, bit)
        for turn in range(2):
            self.assert_stands(bits, 5, 0)
            with self.assertRaises(NoBits):
                bits.take()
        self.assert_stands(bits, 5, 0)

    def test_each_row_of_up_to_6_bits(self):
        for many in range(7):
            for row in itertools.product((0, 1), repeat=many):
                bits = Bits(row)
                self.assertEqual(self.take(bits, many), row)
                with self.assertRaises(NoBits):
                    bits.take()

    def test_back_from_everywhere_to_everywhere(self):
        for used in range(6):
            for many in range(used + 1):
                bits = Bits(ROW)
                self.take(bits, used)
                self.assertIsNone(bits.go_back(many))
                self.assert_stands(bits, many, 5 - many)
                self.assertEqual(self.take(bits, 5 - many), ROW[many:])
                self.assert_stands(bits, 5, 0)

    def test_back_behind_a_refused_take(self):
        bits = Bits(ROW)
        self.take(bits, 5)
        with self.assertRaises(NoBits):
            bits.take()
        bits.go_back(4)
        self.assertEqual(bits.take(), 1)
        self.assert_stands(bits, 5, 0)

    def test_no_place_below_0_or_beyond_used(self):
        for used in range(6):
            for many in (-10 ** 5000, -5, -1, used + 1, 6, 100, 10 ** 5000):
                bits = Bits(ROW)
                self.take(bits, used)
                with self.assertRaises(NoPlace):
                    bits.go_back(many)
                self.assert_stands(bits, used, 5 - used)
                self.assertEqual(self.take(bits, 5 - used), ROW[used:])

    def test_a_step_back_is_not_taken_back(self):
        bits = Bits(ROW)
        self.take(bits, 4)
        bits.go_back(1)
        for many in (2, 3, 4):
            with self.assertRaises(NoPlace):
                bits.go_back(many)
            self.assert_stands(bits, 1, 4)
        bits.take()
        self.assertIsNone(bits.go_back(2))
        self.assert_stands(bits, 2, 3)

    def test_two_of_one_row_do_not_touch_one_another(self):
        one = Bits(ROW)
        other = Bits(ROW)
        self.assertEqual(self.take(one, 3), (1, 0, 0))
        self.assert_stands(other, 0, 5)
        self.assertEqual(self.take(other, 5), ROW)
        self.assert_stands(one, 3, 2)
        other.go_back(0)
        self.assert_stands(one, 3, 2)
        self.assertEqual(self.take(one, 2), (1, 1))

    def test_the_row_is_not_changed(self):
        row = tuple(ROW)
        bits = Bits(row)
        self.take(bits, 5)
        with self.assertRaises(NoBits):
            bits.take()
        bits.go_back(2)
        self.assertEqual(row, (1, 0, 0, 1, 1))


if __name__ == "__main__":
    unittest.main()
