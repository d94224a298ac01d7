"""Point 2.1: figures in twos of fractions, and fractions of figures."""

import itertools
import unittest
from fractions import Fraction
from math import gcd

from bitdraws.digits import are_figures, depth_sum, digits, expansion, value_of

# Without a common divisor and with one.
ALL_TO_40 = [(upper, lower) for lower in range(1, 41) for upper in range(lower)]
TEXTS_TO_4 = ["".join(signs) for many in range(5) for signs in itertools.product("01", repeat=many)]


def pair_of(number):
    return (number.numerator, number.denominator)


class DigitsTest(unittest.TestCase):
    def test_by_hand(self):
        for upper, lower, many, told in (
            (0, 1, 3, (0, 0, 0)),
            (0, 7, 2, (0, 0)),
            (1, 2, 3, (1, 0, 0)),
            (1, 4, 4, (0, 1, 0, 0)),
            (3, 4, 2, (1, 1)),
            (5, 8, 5, (1, 0, 1, 0, 0)),
            (1, 3, 6, (0, 1, 0, 1, 0, 1)),
            (2, 3, 5, (1, 0, 1, 0, 1)),
            (1, 5, 9, (0, 0, 1, 1, 0, 0, 1, 1, 0)),
            (5, 6, 6, (1, 1, 0, 1, 0, 1)),
            (2, 4, 3, (1, 0, 0)),
            (4, 6, 4, (1, 0, 1, 0)),
            (5, 8, 2, (1, 0)),
        ):
            self.assertEqual(digits(upper, lower, many), told, (upper, lower, many))

    def test_none_of_them(self):
        for upper, lower in ALL_TO_40:
            self.assertEqual(digits(upper, lower, 0), ())

    def test_many_of_them(self):
        self.assertEqual(digits(1, 3, 2000), (0, 1) * 1000)
        self.assertEqual(digits(1, 2 ** 900, 1000), (0,) * 899 + (1,) + (0,) * 100)

    def test_they_are_the_whole_of_what_is_doubled_so_often(self):
        for upper, lower in ALL_TO_40:
            for many in (1, 2, 7, 30):
                told = digits(upper, lower, many)
                self.assertEqual(len(told), many)
                number = int("".join(map(str, told)), 2)
                self.assertEqual(number, upper * 2 ** many // lower)

    def test_somewhat_beyond_1_the_figures_behind_the_point_are_told(self):
        self.assertEqual(digits(7, 4, 3), (1, 1, 0))
        self.assertEqual(expansion(7, 6), ("0", "01"))
        self.assertEqual(depth_sum(3, 3), (0, 1))
        self.assertIs(are_figures(3, 3, ("", "1")), True)

    def test_they_are_whole_numbers_in_a_tuple(self):
        told = digits(2, 3, 4)
        self.assertIs(type(told), tuple)
        self.assertEqual([type(figure) for figure in told], [int] * 4)


class ExpansionTest(unittest.TestCase):
    def test_by_hand(self):
        for upper, lower, told in (
            (0, 1, ("", "")),
            (0, 6, ("", "")),
            (1, 2, ("1", "")),
            (1, 4, ("01", "")),
            (3, 4, ("11", "")),
            (5, 8, ("101", "")),
            (1, 3, ("", "01")),
            (2, 3, ("", "10")),
            (1, 7, ("", "001")),
            (1, 5, ("", "0011")),
            (3, 5, ("", "1001")),
            (1, 6, ("0", "01")),
            (5, 6, ("1", "10")),
            (1, 10, ("0", "0011")),
            (5, 12, ("01", "10")),
            (3, 12, ("01", "")),
            (4, 12, ("", "01")),
        ):
            self.assertEqual(expansion(upper, lower), told, (upper, lower))

    def test_the_figures_are_those_of_digits(self):
        for upper, lower in ALL_TO_40:
            ahead, again = expansion(upper, lower)
            row = (ahead + (again or "0") * 150)[:150]
            self.assertEqual(tuple(map(int, row)), digits(upper, lower, 150))

    def test_both_parts_are_as_short_as_can_be(self):
        for upper, lower in ALL_TO_40:
            odd = lower // gcd(upper, lower)
            twos = 0
            while odd % 2 == 0:
                odd //= 2
                twos += 1
            period = 0
            if odd > 1:
                period = next(many for many in range(1, odd) if 2 ** many % odd == 1)
            ahead, again = expansion(upper, lower)
            self.assertEqual((len(ahead), len(again)), (twos, period), (upper, lower))

    def test_value_of_leads_back(self):
        for upper, lower in ALL_TO_40 + [(1, 1009), (5, 4096), (100, 6 * 1021)]:
            ahead, again = expansion(upper, lower)
            self.assertEqual(value_of(ahead, again), pair_of(Fraction(upper, lower)))

    def test_asked_again_the_same_is_told(self):
        self.assertEqual(expansion(5, 12), expansion(5, 12))
        self.assertIs(type(expansion(5, 12)), tuple)


class ValueOfTest(unittest.TestCase):
    def test_by_hand(self):
        for ahead, again, told in (
            ("", "", (0, 1)),
            ("0", "", (0, 1)),
            ("0000", "", (0, 1)),
            ("", "0", (0, 1)),
            ("00", "000", (0, 1)),
            ("1", "", (1, 2)),
            ("1", "00", (1, 2)),
            ("10", "", (1, 2)),
            ("101", "", (5, 8)),
            ("", "1", (1, 1)),
            ("", "111", (1, 1)),
            ("11", "1", (1, 1)),
            ("0", "1", (1, 2)),
            ("", "01", (1, 3)),
            ("", "0101", (1, 3)),
            ("01", "01", (1, 3)),
            ("0", "10", (1, 3)),
            ("1", "01", (2, 3)),
            ("1", "001", (4, 7)),
        ):
            self.assertEqual(value_of(ahead, again), told, (ahead, again))

    def test_all_texts_of_up_to_4_signs(self):
        for ahead, again in itertools.product(TEXTS_TO_4, repeat=2):
            if again == "":
                number = Fraction(int("0" + ahead, 2), 2 ** len(ahead))
            else:
                # Figures that come again fall away between the number moved on by one round and not moved.
                upper = int(ahead + again, 2) - int("0" + ahead, 2)
                number = Fraction(upper, 2 ** len(ahead + again) - 2 ** len(ahead))
            self.assertEqual(value_of(ahead, again), pair_of(number), (ahead, again))

    def test_long_texts(self):
        self.assertEqual(value_of("0" * 500 + "1", ""), (1, 2 ** 501))
        self.assertEqual(value_of("", "0" * 500 + "1"), (1, 2 ** 501 - 1))


class AreFiguresTest(unittest.TestCase):
    def assert_answer(self, told, upper, lower, thing):
        self.assertIs(are_figures(upper, lower, thing), told, (upper, lower, thing))

    def test_right_figures_in_several_forms(self):
        for upper, lower, ahead, again in (
            (0, 1, "", ""),
            (0, 1, "000", "00"),
            (0, 9, "", "0"),
            (1, 2, "1", ""),
            (1, 2, "1", "0"),
            (1, 2, "1000", ""),
            (1, 2, "0", "1"),
            (1, 2, "0111", "11"),
            (2, 4, "1", ""),
            (1, 3, "", "01"),
            (1, 3, "", "0101"),
            (1, 3, "0", "10"),
            (1, 3, "0101", "01"),
            (3, 9, "", "010101"),
            (5, 6, "1", "10"),
            (5, 6, "11", "01"),
        ):
            self.assert_answer(True, upper, lower, (ahead, again))

    def test_figures_with_another_value(self):
        for upper, lower, ahead, again in (
            (0, 1, "", "1"),
            (0, 1, "0001", ""),
            (1, 2, "", ""),
            (1, 2, "", "1"),
            (1, 2, "01", ""),
            (1, 3, "01", ""),
            (1, 3, "", "10"),
            (1, 3, "01" * 40, ""),
            (2, 3, "", "01"),
            (3, 4, "1", "01"),
        ):
            self.assert_answer(False, upper, lower, (ahead, again))

    def test_each_value_is_that_of_its_figures_alone(self):
        pairs = list(itertools.product(TEXTS_TO_4[:15], repeat=2))
        for upper, lower in ((0, 1), (1, 2), (1, 3), (2, 3), (6, 8), (3, 7), (11, 14)):
            for pair in pairs:
                self.assert_answer(Fraction(*value_of(*pair)) == Fraction(upper, lower), upper, lower, pair)

    def test_things_that_are_none(self):
        deep = "1"
        for turn in range(15):
            deep = [deep] if turn % 2 else (deep,)
        for thing in (
            None, True, False, 0, 1, -1, 10 ** 5000, "", "1", "10", "01",
            (), [], ("1",), ("",), ["1", ""], [("1", "")], (("1", ""),), [["1"], [""]],
            ("1", "", ""), ("1", "", None), ("1", "0", "0"),
            ("1", None), (None, "1"), ("1", ()), ("1", []), (("1",), ""), (["1"], ""), ("1", ("",)),
            (1, 0), (1, ""), ("1", 0), (True, ""), ("1", False), (True, False),
            # The first four would tell 1/2 if each figure counted as it stands.
            ("02", ""), ("002", "2"), ("00", "2"), ("004", ""), ("2", ""), ("1", "2"), ("1 ", ""), (" 1", ""), ("1", " "), ("+1", ""), ("-1", ""), ("1_0", ""),
            ("0b1", ""), ("1", "0x0"), ("1.", ""), ("1", "o"), ("1\n", ""), ("1", "\u0660"), ("\u0661", ""),
            ("l", ""), ("1", "a"), ("1", "10 "), deep, (deep, deep), ("1", deep), (deep, ""),
        ):
            for upper, lower in ((1, 2), (0, 1), (2, 4)):
                self.assert_answer(False, upper, lower, thing)

    def test_the_thing_is_not_changed(self):
        thing = [["1"], ("", [])]
        for turn in range(2):
            self.assert_answer(False, 1, 2, thing)
            self.assertEqual(thing, [["1"], ("", [])])


class DepthSumTest(unittest.TestCase):
    def test_by_hand(self):
        for upper, lower, told in (
            (0, 1, (0, 1)),
            (0, 5, (0, 1)),
            (1, 2, (1, 2)),
            (1, 4, (1, 2)),
            (3, 4, (1, 1)),
            (1, 8, (3, 8)),
            (5, 8, (7, 8)),
            (7, 8, (11, 8)),
            (1, 16, (1, 4)),
            (2, 4, (1, 2)),
            (4, 32, (3, 8)),
            # 2/4 + 4/16 + 6/64 + .. and 1/2 + 3/8 + 5/32 + ..
            (1, 3, (8, 9)),
            (2, 3, (10, 9)),
            (2, 6, (8, 9)),
            # 3/8 + 6/64 + .. : 3 times 8/49.
            (1, 7, (24, 49)),
        ):
            self.assertEqual(depth_sum(upper, lower), told, (upper, lower))

    def test_fractions_that_end(self):
        for wide in range(9):
            for upper in range(2 ** wide):
                figures = digits(upper, 2 ** wide, wide)
                number = sum((Fraction(place * figure, 2 ** place) for place, figure in enumerate(figures, 1)), Fraction(0))
                self.assertEqual(depth_sum(upper, 2 ** wide), pair_of(number))

    def test_one_figure_further_on(self):
        for upper, lower in ALL_TO_40:
            here = Fraction(*depth_sum(upper, lower))
            further = (here + Fraction(upper, lower)) / 2
            self.assertEqual(depth_sum(upper, 2 * lower), pair_of(further))
            self.assertEqual(depth_sum(upper + lower, 2 * lower), pair_of(further + Fraction(1, 2)))

    def test_the_first_figures_come_near_to_it(self):
        for upper, lower in ALL_TO_40 + [(1, 1009), (77, 6 * 131)]:
            figures = digits(upper, lower, 100)
            near = sum(Fraction(place * figure, 2 ** place) for place, figure in enumerate(figures, 1))
            lacks = Fraction(*depth_sum(upper, lower)) - near
            # All figures 1 from place 101 on come to 102 over two a hundred times by itself.
            self.assertTrue(0 <= lacks <= Fraction(102, 2 ** 100), (upper, lower))


if __name__ == "__main__":
    unittest.main()
