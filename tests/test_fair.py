"""Point 9.2, and what 0.2 says of it: bits of one unknown share made even."""

import itertools
import math
import unittest
from collections import Counter, defaultdict

from bitdraws.bits import bits_of
from bitdraws.fair import evened, evened_on, ranked
from tests.drawing import DrawTest, all_rows, row_of


def rows_up_to(most):
    return itertools.chain.from_iterable(all_rows(long) for long in range(most + 1))


class FairTest(DrawTest):
    def assert_told(self, ask, due):
        for text, told in due:
            self.assertEqual(ask(row_of(text)), row_of(told), text)

    def assert_each_row_by_as_many(self, ask, most_long):
        """Of all rows as long, with as many ones, as many tell each row of so many bits."""
        for long in range(most_long + 1):
            by_ones = defaultdict(Counter)
            for row in all_rows(long):
                by_ones[sum(row)][ask(row)] += 1
            for ones, often in by_ones.items():
                for wide in {len(told) for told in often}:
                    counts = {often[told] for told in all_rows(wide)}
                    self.assertEqual(len(counts), 1, (long, ones, wide))
                    self.assertNotIn(0, counts)


class EvenedTest(FairTest):
    def test_by_hand(self):
        self.assert_told(evened, (
            ("", ""), ("0", ""), ("1", ""),
            ("00", ""), ("11", ""), ("01", "1"), ("10", "0"),
            ("000", ""), ("010", "1"), ("101", "0"), ("110", ""), ("001", ""), ("011", "1"),
            ("0110", "10"), ("1001", "01"), ("1100", ""), ("0111", "1"), ("0001", "1"), ("1000", "0"),
            ("01101", "10"), ("10 10 01 11 00 01 1", "00 11"),
        ))

    def test_rows_without_ones_and_of_ones_alone(self):
        for long in range(12):
            self.assertEqual(evened((0,) * long), ())
            self.assertEqual(evened((1,) * long), ())

    def test_an_odd_last_bit_tells_nothing(self):
        for row in all_rows(6):
            self.assertEqual(evened(row + (0,)), evened(row))
            self.assertEqual(evened(row + (1,)), evened(row))

    def test_as_many_rows_tell_each_row(self):
        self.assert_each_row_by_as_many(evened, 10)

    def test_kinds_and_asked_again(self):
        row = (0, 1, 1, 0)
        for turn in range(2):
            told = evened(row)
            self.assertEqual((told, type(told), type(told[0])), ((1, 0), tuple, int))
        self.assertEqual(row, (0, 1, 1, 0))


class EvenedOnTest(FairTest):
    def test_depth_0_is_evened(self):
        for row in rows_up_to(8):
            self.assertEqual(evened_on(row, 0), evened(row))

    def test_rows_of_fewer_than_two_bits(self):
        for deep in range(6):
            for row in ((), (0,), (1,)):
                self.assertEqual(evened_on(row, deep), ())

    def test_depth_1_by_hand(self):
        self.assert_told(lambda row: evened_on(row, 1), (
            ("01", "1"), ("10", "0"), ("00", ""), ("11", ""),
            # The bits of like pairs.
            ("0011", "1"), ("1100", "0"), ("0000", ""), ("1111", ""), ("00111", "1"),
            # A row with 1 for each unlike pair: 1 0, then 0 1.
            ("0111", "1 0"), ("1000", "0 0"), ("0001", "1 1"), ("1110", "0 1"), ("01 10", "10"),
            # What evened tells, then of the like pairs, then of which are unlike.
            ("01 00 11 10", "10 1 01"),
            ("01 10 00 11", "10 1"),
            ("01 11 00 01 00 1", "11 0 01"),
        ))

    def test_depth_2_by_hand(self):
        self.assert_told(lambda row: evened_on(row, 2), (
            ("01", "1"), ("0011", "1"), ("0111", "1 0"),
            # The row 1100 of unlike ones leaves 10 of like pairs.
            ("01 10 00 11", "10 1 0"),
            # Like pairs have 0011, of which the like pairs have 01; all are like ones.
            ("00 00 11 11", "1"),
            # Like pairs have 0111: 1, then which are unlike, 10: 0.
            ("00 11 11 11", "1 0"),
            # Which are unlike is 1000: 0, then 10: 0; like pairs have 111.
            ("10 11 11 11", "0 0 0"),
            # Like pairs have 01: 1; which are unlike is 1001: 01, and of these 11: nothing.
            ("01 00 11 10", "10 1 01"),
        ))

    def test_deeper_ones_by_hand(self):
        eight = "00 00 00 00 11 11 11 11"
        for deep, told in ((0, ""), (1, ""), (2, ""), (3, "1"), (4, "1"), (9, "1")):
            self.assertEqual(evened_on(row_of(eight), deep), row_of(told), deep)
        for deep, told in ((0, "10"), (1, "10 1"), (2, "10 1 0"), (3, "10 1 0"), (50, "10 1 0")):
            self.assertEqual(evened_on(row_of("01 10 00 11"), deep), row_of(told), deep)

    def test_by_its_parts(self):
        for row in rows_up_to(9):
            pairs = [row[place:place + 2] for place in range(0, len(row) - 1, 2)]
            like = tuple(pair[0] for pair in pairs if pair in ((0, 0), (1, 1)))
            unlike = tuple(int(pair in ((0, 1), (1, 0))) for pair in pairs)
            for deep in range(1, 5):
                due = evened(row) + evened_on(like, deep - 1) + evened_on(unlike, deep - 1)
                self.assertEqual(evened_on(row, deep), due, (row, deep))

    def test_what_evened_tells_stands_ahead(self):
        for row in itertools.chain(rows_up_to(8), (bits_of(seed, 99) for seed in range(10))):
            ahead = evened(row)
            for deep in range(6):
                self.assertEqual(evened_on(row, deep)[:len(ahead)], ahead)

    def test_rows_without_ones_and_of_ones_alone(self):
        for long in range(20):
            for deep in range(5):
                self.assertEqual(evened_on((0,) * long, deep), ())
                self.assertEqual(evened_on((1,) * long, deep), ())

    def test_as_many_rows_tell_each_row(self):
        for deep in range(5):
            self.assert_each_row_by_as_many(lambda row: evened_on(row, deep), 10)

    def test_great_depths_of_long_rows(self):
        row = bits_of(44, 4000)
        told = evened_on(row, 10 ** 30)
        self.assertEqual(told, evened_on(row, 12))
        self.assertGreater(len(told), 3500)
        self.assertEqual(set(told), {0, 1})
        self.assertIs(type(told), tuple)


class RankedTest(FairTest):
    def test_all_rows_of_up_to_four_bits_by_hand(self):
        self.assert_told(ranked, (
            ("", ""), ("0", ""), ("1", ""),
            ("00", ""), ("10", "0"), ("01", "1"), ("11", ""),
            # Three are two and one.
            ("000", ""), ("100", "0"), ("010", "1"), ("001", ""), ("110", "0"), ("101", "1"), ("011", ""), ("111", ""),
            ("0000", ""), ("1111", ""),
            ("1000", "00"), ("0100", "01"), ("0010", "10"), ("0001", "11"),
            ("1110", "00"), ("1101", "01"), ("1011", "10"), ("0111", "11"),
            # Six are four and two.
            ("1100", "00"), ("1010", "01"), ("1001", "10"), ("0110", "11"), ("0101", "0"), ("0011", "1"),
        ))

    def test_rows_of_five_bits_by_hand(self):
        # Five are four and one, ten are eight and two.
        self.assert_told(ranked, (
            ("10000", "00"), ("00010", "11"), ("00001", ""), ("11110", "00"), ("10111", "11"), ("01111", ""),
            ("11000", "000"), ("10100", "001"), ("10001", "011"), ("01100", "100"), ("00110", "111"),
            ("00101", "0"), ("00011", "1"), ("11100", "000"), ("10011", "101"), ("01101", "111"), ("01011", "0"),
            ("00111", "1"),
        ))

    def test_rows_of_seven_bits_by_hand(self):
        # 35 are 32, two and one: places 31, 32, 33, 34.
        self.assert_told(ranked, (
            ("1110000", "00000"), ("0001110", "11111"), ("0001101", "0"), ("0001011", "1"), ("0000111", ""),
        ))

    def test_rows_without_ones_and_of_ones_alone(self):
        for long in range(30):
            self.assertEqual(ranked((0,) * long), ())
            self.assertEqual(ranked((1,) * long), ())

    def test_by_parting_all_rows_into_powers_of_two(self):
        for long in range(9):
            for ones in range(long + 1):
                choices = itertools.combinations(range(long), ones)
                rows = [tuple(int(place in choice) for place in range(long)) for choice in choices]
                due = []
                while len(due) < len(rows):
                    wide = int(math.log2(len(rows) - len(due)))
                    due += list(all_rows(wide))
                self.assertEqual([ranked(row) for row in rows], due, (long, ones))

    def test_as_many_rows_tell_each_row(self):
        self.assert_each_row_by_as_many(ranked, 10)

    def test_long_rows(self):
        row = (1,) * 500 + (0,) * 500
        wide = math.comb(1000, 500).bit_length() - 1
        self.assertEqual(ranked(row), (0,) * wide)
        self.assertEqual(ranked((1,) + (0,) * 4095), (0,) * 12)
        self.assertEqual(ranked((0,) * 4095 + (1,)), (1,) * 12)
        self.assertEqual(ranked((0,) * 4096 + (1,)), ())

    def test_kinds_and_asked_again(self):
        row = (0, 1, 1, 0)
        for turn in range(2):
            told = ranked(row)
            self.assertEqual((told, type(told), type(told[0])), ((1, 1), tuple, int))
        self.assertEqual(row, (0, 1, 1, 0))


if __name__ == "__main__":
    unittest.main()
