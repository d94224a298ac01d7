"""Points 3.1 and 3.2, and what 0.2 and 0.3 say of them: even numbers, their means and sizes."""

import itertools
import unittest
from fractions import Fraction

from bitdraws.bits import Bits, bits_of
from bitdraws.errors import NoBits
from bitdraws.evens import even, mean_even, mean_simple, rooms, simple_even
from bitdraws.plans import mean_of, mean_pick, plan_of
from tests.drawing import all_rows, row_of

BOTH = (simple_even, even)


def outcome(draw, row, many):
    """The number told and how many bits it took, or None if the row is too short."""
    bits = Bits(row)
    try:
        return (draw(bits, many), bits.used())
    except NoBits:
        return None


def how_often(draw, many, long):
    """Of all rows so long, how many tell each number; those too short at the end."""
    told = [outcome(draw, row, many) for row in all_rows(long)]
    numbers = [one[0] for one in told if one is not None]
    return [numbers.count(number) for number in range(many)] + [told.count(None)]


class DrawTest(unittest.TestCase):
    def assert_draws(self, draw, many, rows):
        for text, number in rows:
            row = row_of(text)
            for behind in ((), (0, 1), (1, 1, 1)):
                self.assertEqual(outcome(draw, row + behind, many), (number, len(row)), (many, text))
            for short in range(len(row)):
                self.assertIsNone(outcome(draw, row[:short], many), (many, text, short))

    def assert_refused(self, draw, row, many, ahead):
        bits = Bits(ahead + row)
        for bit in ahead:
            bits.take()
        for turn in range(3):
            with self.assertRaises(NoBits):
                draw(bits, many)
            self.assertEqual((bits.used(), bits.left()), (len(ahead), len(row)))
        self.assertEqual(tuple(bits.take() for bit in row), row)


class EachDrawTest(DrawTest):
    def test_below_1_no_bit_is_taken(self):
        for draw in BOTH:
            for row in ((), (1,), (0, 1, 1)):
                self.assertEqual(outcome(draw, row, 1), (0, 0))

    def test_below_2_it_is_the_bit(self):
        for draw in BOTH:
            self.assert_draws(draw, 2, (("0", 0), ("1", 1)))

    def test_below_powers_of_two_the_first_bit_counts_the_most(self):
        for draw in BOTH:
            for wide in range(1, 7):
                for number, row in enumerate(all_rows(wide)):
                    self.assertEqual(outcome(draw, row + (1, 0), 2 ** wide), (number, wide))

    def test_below_far_powers_of_two(self):
        for draw in BOTH:
            row = bits_of(17, 5000)
            number = int("".join(map(str, row)), 2)
            self.assertEqual(outcome(draw, row + (1,), 2 ** 5000), (number, 5000))
            self.assertIsNone(outcome(draw, row[1:], 2 ** 5000))

    def test_below_one_less_than_a_far_power_of_two_all_ones_lead_anew(self):
        for draw in BOTH:
            ones = (1,) * 300
            other = (0, 1) * 150
            number = int("01" * 150, 2)
            self.assertEqual(outcome(draw, ones + ones + other, 2 ** 300 - 1), (number, 900))

    def test_below_3(self):
        for draw in BOTH:
            self.assert_draws(draw, 3, (
                ("00", 0), ("01", 1), ("10", 2),
                ("11 00", 0), ("11 01", 1), ("11 10", 2), ("11 11 11 01", 1),
            ))

    def test_too_few_bits_are_as_not_taken(self):
        for draw in BOTH:
            for ahead in ((), (1,), (0, 1, 1)):
                self.assert_refused(draw, (), 2, ahead)
                self.assert_refused(draw, (1,), 3, ahead)
                self.assert_refused(draw, (1, 1), 3, ahead)
                self.assert_refused(draw, (1, 1, 1), 3, ahead)
                self.assert_refused(draw, (1, 1, 1, 1), 5, ahead)
                self.assert_refused(draw, (0,) * 9, 1000, ahead)
                self.assert_refused(draw, (1,) * 7, 7, ahead)

    def test_behind_a_refusal_a_lesser_number_is_drawn_from_the_same_bits(self):
        for draw in BOTH:
            bits = Bits((1, 1, 0))
            with self.assertRaises(NoBits):
                draw(bits, 16)
            self.assertEqual(draw(bits, 4), 3)
            self.assertEqual(draw(bits, 1), 0)
            with self.assertRaises(NoBits):
                draw(bits, 3)
            self.assertEqual(draw(bits, 2), 0)
            self.assertEqual((bits.used(), bits.left()), (3, 0))

    def test_draws_one_behind_the_other(self):
        for draw in BOTH:
            bits = Bits(row_of("11 10 010 1"))
            self.assertEqual([draw(bits, 3), draw(bits, 8), draw(bits, 2)], [2, 2, 1])

    def test_numbers_are_ints(self):
        for draw in BOTH:
            for row in ((0, 1), (0, 0)):
                self.assertIs(type(draw(Bits(row), 3)), int)
            self.assertIs(type(draw(Bits(()), 1)), int)


class SimpleEvenTest(DrawTest):
    def test_below_5(self):
        self.assert_draws(simple_even, 5, (
            ("000", 0), ("001", 1), ("010", 2), ("011", 3), ("100", 4),
            ("101 000", 0), ("110 011", 3), ("111 100", 4), ("111 101 110 010", 2),
        ))

    def test_below_6(self):
        self.assert_draws(simple_even, 6, (("101", 5), ("110 101", 5), ("111 000", 0)))

    def test_far_ones(self):
        many = 10 ** 30
        wide = 100
        row = tuple(map(int, bin(many - 1)[2:]))
        beyond = tuple(map(int, bin(many)[2:]))
        self.assertEqual(len(row), wide)
        self.assertEqual(outcome(simple_even, row, many), (many - 1, wide))
        self.assertEqual(outcome(simple_even, beyond + row, many), (many - 1, 2 * wide))

    def test_each_number_is_told_by_as_many_rows(self):
        for many in range(1, 14):
            wide = len(bin(many - 1)) - 2 if many > 1 else 0
            for long in range(wide, 10):
                told = how_often(simple_even, many, long)
                turns = long // wide if wide > 0 else 1
                each = sum((2 ** wide - many) ** turn * 2 ** (long - (turn + 1) * wide) for turn in range(turns))
                self.assertEqual(told[:many], [each] * many, (many, long))


class EvenTest(DrawTest):
    def test_below_5(self):
        # Behind 5, 6, 7 there is a number below 3; behind one bit more 5 leads to 0 below 1.
        self.assert_draws(even, 5, (
            ("000", 0), ("001", 1), ("010", 2), ("011", 3), ("100", 4),
            ("101 0", 0), ("101 1", 1), ("110 0", 2), ("110 1", 3), ("111 0", 4),
            ("111 1 000", 0), ("111 1 100", 4), ("111 1 101 1", 1), ("111 1 111 1 011", 3),
        ))

    def test_below_6(self):
        # Behind 6, 7 there is a number below 2, which two bits more lead below 8.
        self.assert_draws(even, 6, (
            ("000", 0), ("011", 3), ("101", 5),
            ("110 00", 0), ("110 01", 1), ("110 10", 2), ("110 11", 3), ("111 00", 4), ("111 01", 5),
            ("111 10 11", 3), ("111 11 01", 5), ("111 11 10 00", 0),
        ))

    def test_below_11(self):
        # Sizes 16; 5, 10 and 20; 9 and 18; 7 and 14; 3, 6 and 12; and 1 behind them.
        self.assert_draws(even, 11, (
            ("0000", 0), ("1010", 10),
            ("1011 00", 0), ("1011 11", 3), ("1101 10", 10),
            ("1101 11 0", 0), ("1101 11 1", 1),
            ("1111 11 0 0", 10), ("1111 11 1 0 00", 4), ("1111 11 1 1 10", 10),
            ("1111 11 1 1 11 0111", 7),
        ))

    def test_far_ones(self):
        many = 3 * 2 ** 400
        ones = (1, 1)
        row = bits_of(3, 400)
        number = int("".join(map(str, row)), 2)
        # All numbers below four times the power; the last fourth stays below the power.
        self.assertEqual(outcome(even, (0, 0) + row, many), (number, 402))
        self.assertEqual(outcome(even, (1, 0) + row, many), (2 ** 401 + number, 402))
        self.assertEqual(outcome(even, ones + row, many), None)
        self.assertEqual(outcome(even, ones + row + (0, 1), many), (4 * number + 1, 404))

    def test_each_number_is_told_by_as_many_rows_as_its_figures_tell(self):
        for many in range(1, 18):
            for long in range(11):
                told = how_often(even, many, long)
                each = 2 ** long // many
                self.assertEqual(told, [each] * many + [2 ** long - each * many], (many, long))


class MeanTest(unittest.TestCase):
    def test_mean_simple_by_hand(self):
        for many, told in (
            (1, (0, 1)), (2, (1, 1)), (3, (8, 3)), (4, (2, 1)), (5, (24, 5)), (6, (4, 1)), (7, (24, 7)),
            (8, (3, 1)), (9, (64, 9)), (12, (16, 3)), (16, (4, 1)), (17, (160, 17)),
            (2 ** 500, (500, 1)), (3 * 2 ** 500, (2008, 3)),
        ):
            self.assertEqual(mean_simple(many), told, many)

    def test_mean_even_by_hand(self):
        for many, told in (
            (1, (0, 1)), (2, (1, 1)), (3, (8, 3)), (4, (2, 1)),
            # 1 + 2/2 + 4/4 + 3/8, and a sixteenth of all anew.
            (5, (18, 5)),
            # 1, then 2/2 + 4/4, and a fourth of these anew.
            (6, (11, 3)),
            (7, (24, 7)), (8, (3, 1)), (12, (14, 3)), (16, (4, 1)),
            (2 ** 500, (500, 1)), (3 * 2 ** 500, (1508, 3)),
        ):
            self.assertEqual(mean_even(many), told, many)

    def test_mean_even_of_odd_numbers_by_all_rows_till_it_begins_anew(self):
        for many, long in ((3, 2), (5, 4), (7, 3), (9, 6), (11, 10), (13, 12), (15, 4), (17, 8), (31, 5)):
            taken = [outcome(even, row, many) for row in all_rows(long)]
            self.assertEqual(taken.count(None), 1)
            total = sum(long if one is None else one[1] for one in taken)
            mean = Fraction(total, 2 ** long - 1)
            self.assertEqual(mean_even(many), (mean.numerator, mean.denominator))

    def test_mean_simple_by_all_rows_of_one_turn(self):
        for many in range(2, 20):
            long = len(bin(many - 1)) - 2
            ended = 2 ** long - how_often(simple_even, many, long)[-1]
            mean = Fraction(long * 2 ** long, ended)
            self.assertEqual(mean_simple(many), (mean.numerator, mean.denominator))

    def test_even_takes_the_fewest_bits(self):
        for many in range(1, 65):
            mean = Fraction(*mean_even(many))
            self.assertLessEqual(mean, Fraction(*mean_simple(many)))
            self.assertLessEqual(mean, Fraction(*mean_of(plan_of((1,) * many))))
            self.assertEqual(mean_even(many), mean_pick((1,) * many))
        self.assertLess(Fraction(*mean_even(5)), Fraction(*mean_simple(5)))

    def test_asked_again_the_same_is_told(self):
        for ask in (mean_simple, mean_even, rooms):
            self.assertEqual(ask(100), ask(100))


class RoomsTest(unittest.TestCase):
    def test_powers_of_two(self):
        self.assertEqual(rooms(1), ((), None))
        self.assertEqual(rooms(2), ((1,), None))
        self.assertEqual(rooms(4), ((1, 2), None))
        self.assertEqual(rooms(8), ((1, 2, 4), None))
        self.assertEqual(rooms(2 ** 100), (tuple(2 ** place for place in range(100)), None))

    def test_others(self):
        for many, sizes, again in (
            (3, (1, 2), 0),
            (5, (1, 2, 4, 3), 0),
            (6, (1, 2, 4), 1),
            (7, (1, 2, 4), 0),
            (9, (1, 2, 4, 8, 7, 5), 0),
            (10, (1, 2, 4, 8, 6), 1),
            (11, (1, 2, 4, 8, 5, 10, 9, 7, 3, 6), 0),
            (12, (1, 2, 4, 8), 2),
            (24, (1, 2, 4, 8, 16), 3),
            (28, (1, 2, 4, 8, 16), 2),
        ):
            self.assertEqual(rooms(many), (sizes, again), many)

    def test_step_by_step_as_even_comes_to_them(self):
        for many in range(1, 200):
            sizes = []
            size = 1
            while 0 < size < many and size not in sizes:
                sizes.append(size)
                size = 2 * size
                if size >= many:
                    size -= many
            again = sizes.index(size) if size in sizes else None
            self.assertEqual(rooms(many), (tuple(sizes), again))


if __name__ == "__main__":
    unittest.main()
