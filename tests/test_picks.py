"""Point 4.1, and what 0.2, 0.3 and 0.4 say of it: numbers picked by weights."""

import itertools
import unittest
from fractions import Fraction

from bitdraws.bits import Bits, bits_of
from bitdraws.digits import depth_sum, digits
from bitdraws.errors import NoBits
from bitdraws.evens import even, mean_even
from bitdraws.plans import coin, mean_of, mean_pick, pick, plan_of
from tests.drawing import all_rows, row_of

SMALL_WEIGHTS = [
    weights for many in (1, 2, 3) for weights in itertools.product(range(6), repeat=many) if sum(weights) > 0
]


def outcome(row, weights):
    """The number told and how many bits it took, or None if the row is too short."""
    bits = Bits(row)
    try:
        return (pick(bits, weights), bits.used())
    except NoBits:
        return None


class PickTest(unittest.TestCase):
    def assert_picks(self, weights, rows):
        for text, number in rows:
            row = row_of(text)
            for behind in ((), (0, 1), (1, 1, 1)):
                self.assertEqual(outcome(row + behind, weights), (number, len(row)), (weights, text))
            for short in range(len(row)):
                self.assertIsNone(outcome(row[:short], weights), (weights, text, short))

    def test_one_weight_takes_no_bit(self):
        for weight in (1, 2, 3, 100, 10 ** 40):
            for row in ((), (1, 0)):
                self.assertEqual(outcome(row, (weight,)), (0, 0))

    def test_all_weight_at_one_number_takes_no_bit(self):
        for weight in (1, 3, 8, 10 ** 40):
            for place in range(4):
                weights = (0,) * place + (weight,) + (0,) * (3 - place)
                for row in ((), (1, 0)):
                    self.assertEqual(outcome(row, weights), (place, 0))

    def test_like_ones_that_come_to_a_power_of_two(self):
        self.assert_picks((1, 1), (("0", 0), ("1", 1)))
        self.assert_picks((5, 5), (("0", 0), ("1", 1)))
        self.assert_picks((3, 3, 3, 3), (("00", 0), ("01", 1), ("10", 2), ("11", 3)))
        self.assert_picks((0, 7, 0, 7, 0), (("0", 1), ("1", 3)))

    def test_depth_by_depth(self):
        # 1/4 is .01, 3/4 is .11
        self.assert_picks((1, 3), (("0", 1), ("10", 0), ("11", 1)))
        self.assert_picks((3, 1), (("0", 0), ("10", 0), ("11", 1)))
        self.assert_picks((1, 0, 3), (("0", 2), ("10", 0), ("11", 2)))
        # 3/8 is .011, 5/8 is .101
        self.assert_picks((3, 5), (("0", 1), ("10", 0), ("110", 0), ("111", 1)))
        # 1/8 is .001, 2/8 is .01, 5/8 is .101
        self.assert_picks((1, 2, 5), (("0", 2), ("10", 1), ("110", 0), ("111", 2)))
        self.assert_picks((5, 0, 2, 1), (("0", 0), ("10", 2), ("110", 0), ("111", 3)))

    def test_depth_by_depth_without_an_end(self):
        # 1/3 is .010101.., 2/3 is .101010..
        self.assert_picks((1, 2), (("0", 1), ("10", 0), ("110", 1), ("1110", 0), ("11110", 1), ("111110", 0)))
        self.assert_picks((2, 1), (("0", 0), ("10", 1), ("110", 0), ("1110", 1)))
        self.assert_picks((1, 1, 1), (("00", 0), ("01", 1), ("10", 2), ("11 01", 1), ("11 11 10", 2)))
        # 1/5 is .00110011.., 4/5 is .11001100..
        self.assert_picks((1, 4), (
            ("0", 1), ("10", 1), ("110", 0), ("1110", 0), ("11110", 1), ("1111110", 0),
        ))
        # 1/6 is .0010101.., 2/6 is .0101.., 3/6 is .1
        self.assert_picks((1, 2, 3), (
            ("0", 2), ("10", 1), ("110", 0), ("1110", 1), ("11110", 0),
        ))
        # 2/5 is .01100110.., twice, and 1/5: ends 0, 1 / 0, 1, 2 / 2 / none, and anew.
        self.assert_picks((2, 2, 1), (
            ("00", 0), ("01", 1), ("100", 0), ("101", 1), ("110", 2), ("1110", 2), ("1111 01", 1),
        ))

    def test_great_weights(self):
        great = 10 ** 40
        self.assert_picks((great, great), (("0", 0), ("1", 1)))
        self.assert_picks((great, 3 * great), (("0", 1), ("10", 0), ("11", 1)))
        self.assert_picks((1, great), (("0", 1), ("10", 1), ("1110", 1)))
        # One in a power of two has its figure at the very end.
        self.assert_picks((1, 2 ** 100 - 1), (("1" * 99 + "0", 0), ("1" * 100, 1), ("1" * 98 + "0", 1)))

    def test_as_many_rows_tell_each_number_as_its_figures_tell(self):
        for weights in SMALL_WEIGHTS:
            for long in (0, 1, 2, 5, 7):
                told = [outcome(row, weights) for row in all_rows(long)]
                numbers = [one[0] for one in told if one is not None]
                often = [numbers.count(number) for number in range(len(weights))]
                each = [2 ** long * weight // sum(weights) for weight in weights]
                self.assertEqual(often, each, (weights, long))

    def test_at_each_depth_those_with_a_figure_1_end_rising(self):
        for weights in ((1, 2, 4), (3, 0, 4, 6), (5, 5, 1), (2, 3, 6, 2)):
            ends = []
            for row in all_rows(8):
                told = outcome(row, weights)
                if told is not None and not any(row[told[1]:]):
                    ends.append((told[1], row[:told[1]], told[0]))
            figures = [digits(weight, sum(weights), 8) for weight in weights]
            # As the ways down to one depth rise, the numbers do.
            told = [(depth, number) for depth, row, number in sorted(ends)]
            due = [(depth, number) for depth in range(1, 9) for number in range(len(weights)) if figures[number][depth - 1]]
            self.assertEqual(told, due)

    def test_like_weights_are_drawn_as_by_even(self):
        row = bits_of(11, 40)
        for many in range(1, 20):
            for weight in (1, 6):
                for skip in range(12):
                    bits = Bits(row[skip:])
                    other = Bits(row[skip:])
                    self.assertEqual(pick(bits, (weight,) * many), even(other, many))
                    self.assertEqual(bits.used(), other.used())

    def test_too_few_bits_are_as_not_taken(self):
        for weights, row in (
            ((1, 1), ()), ((1, 3), (1,)), ((1, 2), (1, 1, 1, 1)), ((1, 1, 1), (1, 1, 1)),
            ((1, 2 ** 100 - 1), (1,) * 99), ((0, 3, 0, 5), (1, 1)),
        ):
            for ahead in ((), (0,), (1, 1, 0)):
                bits = Bits(ahead + row)
                for bit in ahead:
                    bits.take()
                for turn in range(3):
                    with self.assertRaises(NoBits):
                        pick(bits, weights)
                    self.assertEqual((bits.used(), bits.left()), (len(ahead), len(row)))
                self.assertEqual(tuple(bits.take() for bit in row), row)

    def test_picks_one_behind_the_other(self):
        bits = Bits(row_of("0 10 11 0"))
        self.assertEqual([pick(bits, (1, 3)) for turn in range(4)], [1, 0, 1, 1])
        self.assertEqual((bits.used(), bits.left()), (6, 0))


class MeanPickTest(unittest.TestCase):
    def test_by_hand(self):
        for weights, told in (
            ((1, 1), (1, 1)),
            ((1, 3), (3, 2)),
            ((3, 1), (3, 2)),
            ((0, 3, 0, 1), (3, 2)),
            ((3, 5), (7, 4)),
            # 1/2 + 2/4 + 3/8 + .. is 2.
            ((1, 2), (2, 1)),
            ((1, 1, 1), (8, 3)),
            # 1/2 + 1/3 of two, and of these 2/3 with 1/3: 1 + half of 2.
            ((1, 2, 3), (2, 1)),
            ((1, 4), (2, 1)),
            ((10 ** 40, 3 * 10 ** 40), (3, 2)),
        ):
            self.assertEqual(mean_pick(weights), told, weights)

    def test_nought_where_one_weight_is_all(self):
        for weights in ((1,), (7,), (0, 3), (5, 0, 0), (0, 10 ** 40, 0)):
            self.assertEqual(mean_pick(weights), (0, 1))

    def test_like_weights_as_even(self):
        for many in range(1, 70):
            for weight in (1, 4, 7):
                self.assertEqual(mean_pick((weight,) * many), mean_even(many))

    def test_the_first_bits_come_near_to_it(self):
        for weights in SMALL_WEIGHTS:
            told = [outcome(row, weights) for row in all_rows(8)]
            near = Fraction(sum(8 if one is None else one[1] for one in told), 2 ** 8)
            # Behind 8 bits each weight has one end at a depth at most: 1/2 + 2/4 + 3/8 + .. of one row.
            mean = Fraction(*mean_pick(weights))
            self.assertTrue(near <= mean <= near + Fraction(2 * len(weights), 2 ** 8), weights)

    def test_all_ends_each_with_its_share(self):
        for weights in SMALL_WEIGHTS:
            if max(weights) < sum(weights):
                mean = sum(Fraction(*depth_sum(weight, sum(weights))) for weight in weights)
                self.assertEqual(mean_pick(weights), (mean.numerator, mean.denominator))

    def test_no_plan_of_ours_takes_fewer(self):
        for weights in SMALL_WEIGHTS:
            self.assertLessEqual(Fraction(*mean_pick(weights)), Fraction(*mean_of(plan_of(weights))))


class CoinTest(unittest.TestCase):
    def toss(self, text, upper, lower):
        bits = Bits(row_of(text))
        told = coin(bits, upper, lower)
        self.assertIs(type(told), bool)
        return (told, bits.used())

    def test_at_once(self):
        for lower in (1, 2, 3, 8, 10 ** 40):
            for text in ("", "0", "11"):
                self.assertEqual(self.toss(text, 0, lower), (False, 0))
                self.assertEqual(self.toss(text, lower, lower), (True, 0))

    def test_between(self):
        for upper, lower, text, told in (
            (1, 2, "0", False), (1, 2, "1", True), (5, 10, "1", True),
            (1, 4, "0", False), (1, 4, "10", False), (1, 4, "11", True),
            (3, 4, "0", True), (3, 4, "10", False), (3, 4, "11", True), (6, 8, "10", False),
            (1, 3, "0", False), (1, 3, "10", True), (1, 3, "110", False), (1, 3, "1110", True),
            (2, 3, "0", True), (2, 3, "10", False), (2, 3, "110", True),
            (5, 8, "0", True), (5, 8, "10", False), (5, 8, "110", False), (5, 8, "111", True),
        ):
            self.assertEqual(self.toss(text, upper, lower), (told, len(text)), (upper, lower, text))
            self.assertEqual(self.toss(text + "01", upper, lower), (told, len(text)), (upper, lower, text))

    def test_as_pick_tells(self):
        row = bits_of(5, 60)
        for lower in range(1, 12):
            for upper in range(lower + 1):
                for skip in range(20):
                    bits = Bits(row[skip:])
                    other = Bits(row[skip:])
                    told = pick(other, (lower - upper, upper)) == 1
                    self.assertIs(coin(bits, upper, lower), told)
                    self.assertEqual(bits.used(), other.used())

    def test_too_few_bits_are_as_not_taken(self):
        bits = Bits((0, 1, 1, 1))
        bits.take()
        for turn in range(2):
            with self.assertRaises(NoBits):
                coin(bits, 1, 3)
            self.assertEqual((bits.used(), bits.left()), (1, 3))


if __name__ == "__main__":
    unittest.main()
