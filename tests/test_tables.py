"""Points 5.1 and 5.2, and what 0.2 and 0.3 say of them: tables with columns, and sums of weights."""

import itertools
import unittest
from fractions import Fraction

from bitdraws.bits import Bits, bits_of
from bitdraws.errors import NoBits
from bitdraws.evens import even
from bitdraws.tables import by_table, is_table, number_by, shares_of_table, sums_of, table_of

SMALL_WEIGHTS = [
    weights for many in (1, 2, 3, 4) for weights in itertools.product(range(5), repeat=many) if sum(weights) > 0
]
MORE_WEIGHTS = SMALL_WEIGHTS + [tuple(range(30)), (10 ** 40, 1, 3 * 10 ** 39), (7,) * 60 + (1,), (0,) * 20 + (9, 5)]


def shares_due(weights):
    together = sum(weights)
    shares = [Fraction(weight, together) for weight in weights]
    return tuple((share.numerator, share.denominator) for share in shares)


class TableOfTest(unittest.TestCase):
    def test_one_weight(self):
        for weight in (1, 2, 5, 10 ** 40):
            self.assertEqual(table_of((weight,)), ((weight, 0),))

    def test_like_ones(self):
        self.assertEqual(table_of((1, 1)), ((2, 0), (2, 1)))
        self.assertEqual(table_of((4, 4, 4)), ((12, 0), (12, 1), (12, 2)))

    def test_by_hand(self):
        for weights, table in (
            # Left are 2, 6 of 4.
            ((1, 3), ((2, 1), (4, 1))),
            ((3, 1), ((4, 0), (2, 0))),
            # Left are 3, 6, 9 of 6; 3 of 1 go, so it is small, and 3 of 2.
            ((1, 2, 3), ((3, 1), (3, 2), (6, 2))),
            # Left are 9, 6, 3 of 6; 3 of 0 go, and it stays great.
            ((3, 2, 1), ((6, 0), (6, 1), (3, 0))),
            # Left are 3, 3, 12 of 6: of 2 go 3 and 3.
            ((1, 1, 4), ((3, 2), (3, 2), (6, 2))),
            # Left are 12, 8, 8, 4 of 8.
            ((3, 2, 2, 1), ((8, 0), (8, 1), (8, 2), (4, 0))),
            # Left are 5, 50, 5, 20, 20 of 20: of 1 go 15 and 15, and it stays great.
            ((1, 10, 1, 4, 4), ((5, 1), (20, 1), (5, 1), (20, 3), (20, 4))),
        ):
            self.assertEqual(table_of(weights), table, weights)

    def test_noughts_among_them(self):
        for weights, table in (
            ((0, 3), ((0, 1), (3, 1))),
            ((3, 0), ((3, 0), (0, 0))),
            ((0, 0, 5, 0), ((0, 2), (0, 2), (5, 2), (0, 2))),
            # Left are 0, 3, 3 of 2.
            ((0, 1, 1), ((0, 1), (1, 2), (2, 2))),
        ):
            self.assertEqual(table_of(weights), table, weights)

    def test_the_first_small_one_and_the_first_great_one(self):
        # Left are 0, 0, 4, 8 of 3: of 2 go 3, then it is small behind 1.
        self.assertEqual(table_of((0, 0, 1, 2)), ((0, 2), (0, 3), (1, 3), (3, 3)))

    def test_one_that_becomes_small_is_the_last_of_them(self):
        # Left are 0, 0, 5, 5, 5 of 3: 2 and 3 become small behind one another.
        self.assertEqual(table_of((0, 0, 1, 1, 1)), ((0, 2), (0, 3), (2, 4), (2, 4), (3, 4)))
        self.assertEqual(table_of((0, 0, 1, 1, 2)), ((0, 2), (0, 3), (1, 4), (1, 4), (4, 4)))

    def test_its_shares_are_the_weights(self):
        for weights in MORE_WEIGHTS:
            table = table_of(weights)
            self.assertEqual(shares_of_table(table, sum(weights)), shares_due(weights), weights)
            self.assertIs(is_table(weights, table), True, weights)
            self.assertEqual(table_of(weights), table)


class SharesOfTableTest(unittest.TestCase):
    def test_by_hand(self):
        for table, high, shares in (
            (((1, 0),), 1, ((1, 1),)),
            (((0, 0),), 7, ((1, 1),)),
            (((0, 1), (0, 0)), 4, ((1, 2), (1, 2))),
            (((4, 1), (4, 0)), 4, ((1, 2), (1, 2))),
            (((1, 1), (4, 1)), 4, ((1, 8), (7, 8))),
            (((1, 1), (3, 0)), 4, ((1, 4), (3, 4))),
            (((2, 2), (0, 2), (3, 0)), 3, ((2, 9), (0, 1), (7, 9))),
            (((1, 0), (1, 1), (1, 1)), 2, ((1, 3), (1, 2), (1, 6))),
        ):
            self.assertEqual(shares_of_table(table, high), shares, table)

    def test_by_counting_all_places(self):
        for high in (1, 2, 3):
            # Cuts somewhat below 0 and above the top leave the whole column to one of its two.
            columns = [(cut, other) for cut in range(-1, high + 2) for other in range(3)]
            for table in itertools.product(columns, repeat=3):
                numbers = []
                for number, (cut, other) in enumerate(table):
                    numbers += [number if place < cut else other for place in range(high)]
                shares = [Fraction(numbers.count(number), 3 * high) for number in range(3)]
                due = tuple((share.numerator, share.denominator) for share in shares)
                self.assertEqual(shares_of_table(table, high), due, (table, high))


class IsTableTest(unittest.TestCase):
    def assert_answer(self, answer, weights, thing):
        self.assertIs(is_table(weights, thing), answer, (weights, thing))

    def test_other_tables_with_the_same_shares(self):
        for weights, table in (
            ((1, 1), ((0, 1), (0, 0))),
            ((1, 1), ((1, 1), (1, 0))),
            ((1, 1), ((2, 1), (2, 0))),
            ((1, 1), ((2, 1), (2, 1))),
            ((5,), ((0, 0),)),
            ((5,), ((3, 0),)),
            ((1, 3), ((2, 1), (4, 0))),
            ((1, 3), ((0, 1), (2, 0))),
            ((1, 3), ((1, 1), (3, 0))),
            ((0, 3), ((0, 1), (0, 1))),
            ((1, 2, 3), ((3, 2), (6, 0), (6, 1))),
            ((1, 2, 3), ((0, 1), (0, 2), (3, 0))),
        ):
            self.assert_answer(True, weights, table)

    def test_tables_with_other_shares(self):
        for weights, table in (
            ((1, 1), ((1, 1), (2, 0))),
            ((1, 1), ((0, 0), (0, 0))),
            ((1, 3), ((3, 1), (4, 1))),
            ((1, 3), ((1, 1), (4, 1))),
            ((1, 3), ((4, 0), (4, 1))),
            ((3, 1), ((2, 1), (4, 1))),
            ((0, 3), ((3, 0), (3, 1))),
            ((1, 2, 3), ((3, 1), (3, 2), (5, 0))),
        ):
            self.assert_answer(False, weights, table)

    def test_columns_too_few_or_too_many(self):
        for weights, table in (
            ((1, 1), ((2, 0),)), ((1, 1), ()), ((1, 1), ((2, 0), (2, 1), (2, 2))), ((5,), ()), ((5,), ((5, 0), (5, 0))),
            ((1, 0), ((1, 0),)), ((1,), ((1, 0), (0, 0))),
        ):
            self.assert_answer(False, weights, table)

    def test_cuts_below_0_or_above_all_together(self):
        # Each would come to the shares if it were taken as it stands.
        for weights, table in (
            ((5,), ((6, 0),)), ((5,), ((-1, 0),)), ((5,), ((10 ** 5000, 0),)),
            ((1, 1), ((3, 0), (2, 1))), ((1, 1), ((-1, 0), (2, 1))), ((1, 1), ((2, 0), (-1, 1))),
            ((1, 1), ((3, 1), (3, 0))), ((1, 1), ((-1, 1), (-1, 0))), ((0, 3), ((-1, 1), (4, 0))),
        ):
            self.assert_answer(False, weights, table)

    def test_numbers_that_are_none(self):
        for weights, table in (
            ((5,), ((5, 1),)), ((5,), ((5, -1),)), ((1, 1), ((2, 2), (2, 1))), ((1, 1), ((2, 0), (2, -1))),
            ((1, 1), ((0, -1), (0, -2))), ((0, 3), ((0, -1), (3, 1))), ((1, 3), ((2, 2), (4, 1))),
            ((5,), ((5, 10 ** 5000),)), ((5,), ((5, -10 ** 5000),)),
        ):
            self.assert_answer(False, weights, table)

    def test_truths_in_a_number_s_place(self):
        for weights, table in (
            ((1,), ((True, 0),)), ((1,), ((1, False),)), ((1,), ((False, 0),)), ((1, 1), ((True, True), (1, 0))),
            ((1, 1), ((2, 0), (2, True))), ((1, 1), ((1, 1), (1, False))), ((0, 1), ((False, 1), (1, 1))),
        ):
            self.assert_answer(False, weights, table)

    def test_lists_and_other_things(self):
        deep = ((2, 0), (2, 1))
        for turn in range(15):
            deep = [deep] if turn % 2 else (deep,)
        right = (2, 0)
        things = [
            None, True, False, 0, 2, -1, "", "2", "20", (), [], ((),), [[]], deep, (deep, deep), right, (2, 0, 2, 1),
            [(2, 0), (2, 1)], ([2, 0], [2, 1]), [[2, 0], [2, 1]], (((2, 0), (2, 1)),), ("20", "21"), (2, 2),
        ]
        for column in (
            None, True, 2, "", "21", (), [], (2,), (2, 1, 1), (2, 1, None), [2, 1], (None, 1), (2, None), ("2", 1),
            (2, "1"), ((2,), 1), (2, (1,)), ([2], 1), (2, [1]), ((2, 1),), [(2, 1)], deep, (deep, 1), (2, deep),
        ):
            things += [(right, column), (column, right), (column, column)]
        for thing in things:
            self.assert_answer(False, (1, 1), thing)
        for thing in things:
            self.assert_answer(False, (2,), thing)

    def test_by_counting_all_places(self):
        columns = [(cut, other) for cut in range(5) for other in range(-1, 3)]
        for table in itertools.product(columns, repeat=2):
            numbers = []
            for number, (cut, other) in enumerate(table):
                numbers += [number if place < cut else other for place in range(4)]
            right = all(cut <= 4 and other in (0, 1) for cut, other in table)
            for weights in ((1, 3), (2, 2), (4, 0)):
                due = right and [numbers.count(0), numbers.count(1)] == [2 * weights[0], 2 * weights[1]]
                self.assert_answer(due, weights, table)

    def test_the_thing_is_not_changed(self):
        thing = [[2, 0], [2, 1]]
        for turn in range(2):
            self.assert_answer(False, (1, 1), thing)
            self.assertEqual(thing, [[2, 0], [2, 1]])


class ByTableTest(unittest.TestCase):
    def test_one_column_of_height_1_takes_no_bit(self):
        for table in (((1, 0),), ((0, 0),)):
            bits = Bits(())
            self.assertEqual((by_table(bits, table, 1), bits.used()), (0, 0))

    def test_by_hand(self):
        # Places 0 to 7: column 0 has 0 below cut and 1 above, column 1 has 1 below cut and 0 above.
        table = ((1, 1), (3, 0))
        for place, number in enumerate((0, 1, 1, 1, 1, 1, 1, 0)):
            row = (place // 4, place // 2 % 2, place % 2)
            for behind in ((), (0, 1)):
                bits = Bits(row + behind)
                self.assertEqual((by_table(bits, table, 4), bits.used()), (number, 3), place)

    def test_by_even_s_number(self):
        row = bits_of(23, 80)
        for weights in ((1, 2), (1, 2, 3), (4, 0, 1), (5, 5, 5), (2, 9, 3, 1, 0)):
            table = table_of(weights)
            high = sum(weights)
            for skip in range(40):
                bits = Bits(row[skip:])
                other = Bits(row[skip:])
                place = even(other, high * len(weights))
                column = place // high
                due = column if place - column * high < table[column][0] else table[column][1]
                self.assertEqual((by_table(bits, table, high), bits.used()), (due, other.used()))

    def test_of_all_even_numbers_each_number_has_its_share(self):
        for weights in ((1, 3), (2, 0, 1, 1), (0, 1, 0, 0), (3, 5, 4, 4)):
            together = sum(weights)
            all_places = together * len(weights)
            wide = len(bin(all_places)) - 3
            self.assertEqual(2 ** wide, all_places)
            told = [by_table(Bits(row), table_of(weights), together) for row in itertools.product((0, 1), repeat=wide)]
            often = [told.count(number) for number in range(len(weights))]
            self.assertEqual(often, [weight * len(weights) for weight in weights])

    def test_too_few_bits_are_as_not_taken(self):
        for table, high, row in (
            (((1, 1), (3, 0)), 4, ()), (((1, 1), (3, 0)), 4, (1, 1)), (table_of((1, 2, 3)), 6, (1, 1, 1, 1, 1)),
            (((2, 0), (2, 1), (2, 2)), 1, (1, 1, 1)),
        ):
            for ahead in ((), (0, 1)):
                bits = Bits(ahead + row)
                for bit in ahead:
                    bits.take()
                for turn in range(3):
                    with self.assertRaises(NoBits):
                        by_table(bits, table, high)
                    self.assertEqual((bits.used(), bits.left()), (len(ahead), len(row)))
                self.assertEqual(tuple(bits.take() for bit in row), row)


class SumsTest(unittest.TestCase):
    def test_sums_by_hand(self):
        for weights, sums in (
            ((1,), (1,)),
            ((5,), (5,)),
            ((1, 2, 3), (1, 3, 6)),
            ((0, 2, 0, 0, 3, 0), (0, 2, 2, 2, 5, 5)),
            ((10 ** 40, 1), (10 ** 40, 10 ** 40 + 1)),
        ):
            self.assertEqual(sums_of(weights), sums)
            self.assertEqual(sums_of(weights), sums)

    def test_number_by_at_every_place_by_hand(self):
        self.assertEqual([number_by((1, 3, 6), place) for place in range(6)], [0, 1, 1, 2, 2, 2])
        self.assertEqual([number_by((5,), place) for place in range(5)], [0] * 5)
        self.assertEqual([number_by((0, 2, 2, 2, 5, 5), place) for place in range(5)], [1, 1, 4, 4, 4])
        self.assertEqual([number_by((0, 0, 1), place) for place in range(1)], [2])

    def test_great_sums(self):
        sums = sums_of((10 ** 40, 1, 10 ** 40))
        for place, number in ((0, 0), (10 ** 40 - 1, 0), (10 ** 40, 1), (10 ** 40 + 1, 2), (2 * 10 ** 40, 2)):
            self.assertEqual(number_by(sums, place), number)

    def test_each_number_stands_at_as_many_places_as_its_weight_tells(self):
        for weights in SMALL_WEIGHTS:
            told = [number_by(sums_of(weights), place) for place in range(sum(weights))]
            self.assertEqual(told, sorted(told))
            self.assertEqual([told.count(number) for number in range(len(weights))], list(weights))


if __name__ == "__main__":
    unittest.main()
