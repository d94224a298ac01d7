"""Point 9.1, and what 0.2 and 0.3 say of it: numbers by a keeper, and what it has left."""

import itertools
import unittest
from collections import Counter, defaultdict

from bitdraws.bits import Bits, bits_of
from bitdraws.errors import NoBits
from bitdraws.evens import even
from bitdraws.keeping import Keeper
from tests.drawing import DrawTest, all_rows, begun, row_of


class KeeperTest(DrawTest):
    def assert_room(self, keeper, room):
        # Twice, for being asked changes nothing.
        for turn in range(2):
            self.assertEqual(keeper.room(), room)
            self.assertEqual([type(keeper.room())] + [type(part) for part in keeper.room()], [tuple, int, int])

    def assert_keeps(self, most, turns):
        """Turns are: below what is drawn, the bits taken for it as a text, what is told, and the room then."""
        row = row_of("".join(text for many, text, told, room in turns))
        for behind in ((), (0, 1, 1)):
            bits = begun((1, 0), row + behind)
            keeper = Keeper(bits, most)
            self.assert_room(keeper, (0, 1))
            used = 2
            for number, (many, text, told, room) in enumerate(turns):
                drawn = keeper.draw(many)
                self.assertEqual((drawn, type(drawn)), (told, int), (number, many))
                used += len(row_of(text))
                self.assertEqual(bits.used(), used, (number, many))
                self.assert_room(keeper, room)

    def test_at_first_it_has_0_below_1_and_takes_no_bit(self):
        for most in (1, 2, 5, 10 ** 40):
            bits = Bits((1, 0, 1))
            self.assert_room(Keeper(bits, most), (0, 1))
            self.assertEqual(bits.used(), 0)

    def test_most_1_leaves_nothing(self):
        nothing = (0, 1)
        self.assert_keeps(1, ((1, "", 0, nothing), (1, "", 0, nothing)))
        self.assert_keeps(1, ((2, "1", 1, nothing), (3, "10", 2, nothing), (4, "01", 1, nothing)))
        self.assert_keeps(1, ((3, "11 01", 1, nothing), (5, "100", 4, nothing), (5, "101 1", 1, nothing)))
        self.assert_keeps(1, ((5, "111 1 010", 2, nothing), (6, "111 10 11", 3, nothing), (1, "", 0, nothing)))

    def test_most_1_draws_as_even_does(self):
        stream = bits_of(21, 2000)
        bits = Bits(stream)
        other = Bits(stream)
        keeper = Keeper(bits, 1)
        for many in tuple(range(1, 60)) + (10 ** 20, 2 ** 64):
            self.assertEqual(keeper.draw(many), even(other, many))
            self.assertEqual(bits.used(), other.used())
            self.assert_room(keeper, (0, 1))

    def test_most_2_leaves_little(self):
        # Three bits tell a number below 8: twice 3 go into it.
        self.assert_keeps(2, ((3, "000", 0, (0, 2)),))
        self.assert_keeps(2, ((3, "101", 2, (1, 2)), (3, "00", 1, (1, 2)), (1, "", 0, (1, 2))))
        # 6 and 7 leave a number below 2.
        self.assert_keeps(2, ((3, "110 01", 1, (0, 2)),))
        self.assert_keeps(2, ((3, "101", 2, (1, 2)), (3, "11 10 00", 0, (0, 2))))
        # Below 4 lies all that is drawn below 2, twice.
        self.assert_keeps(2, ((2, "11", 1, (1, 2)), (2, "0", 0, (1, 2)), (5, "000", 3, (1, 3)), (1, "", 0, (1, 3))))

    def test_most_3(self):
        # Two bits lead 3 below 4 to 13 below 16, into which 5 goes three times.
        self.assert_keeps(3, ((1, "11", 0, (3, 4)), (2, "0", 0, (3, 4)), (2, "1", 1, (3, 4)), (5, "01", 3, (2, 3))))

    def test_what_is_drawn_below_1_takes_bits_for_the_room(self):
        self.assert_keeps(4, ((1, "10", 0, (2, 4)), (1, "", 0, (2, 4)), (4, "01", 1, (2, 4)), (4, "11", 3, (2, 4))))

    def test_much_left(self):
        # 12345 of 14 bits: 1638 times 10 go into 16384; then 1048 times 100 into 104832.
        self.assert_keeps(1024, ((10, "11000000111001", 5, (1234, 1638)), (100, "000000", 76, (789, 1048))))
        # 16382 leaves 2 below 4, which twelve bits lead to 8203 below 16384.
        self.assert_keeps(1024, ((10, "11111111111110 000000001011", 3, (820, 1638)),))
        # Less is drawn of what is left without a bit.
        self.assert_keeps(8, ((10, "0101101", 5, (4, 12)), (1, "", 0, (4, 12))))

    def test_far_numbers(self):
        row = bits_of(30, 401)
        number = int("".join(map(str, row[:400])), 2)
        bits = Bits(row)
        keeper = Keeper(bits, 2 ** 200)
        self.assertEqual(keeper.draw(2 ** 200), number % 2 ** 200)
        self.assert_room(keeper, (number // 2 ** 200, 2 ** 200))
        self.assertEqual(bits.used(), 400)
        many = 10 ** 100
        bits = Bits(bits_of(31, 5000))
        keeper = Keeper(bits, 7)
        self.assertEqual([0 <= keeper.draw(many) < many for turn in range(3)], [True] * 3)
        left, size = keeper.room()
        self.assertTrue(0 <= left < size and 7 <= size < 14)

    def test_by_the_words_of_the_document(self):
        stream = bits_of(22, 3000)
        for most in (1, 2, 3, 7, 100):
            bits = Bits(stream)
            other = Bits(stream)
            keeper = Keeper(bits, most)
            number, size = 0, 1
            for many in (1, 2, 3, 10, 6, 1, 7, 7, 100, 3, 50, 1000, 2, 9, 5):
                told = None
                while told is None:
                    while size < most * many:
                        number, size = 2 * number + other.take(), 2 * size
                    times = size // many
                    if number < many * times:
                        told, number, size = number % many, number // many, times
                    else:
                        number, size = number - many * times, size - many * times
                self.assertEqual(keeper.draw(many), told)
                self.assert_room(keeper, (number, size))
                self.assertEqual(bits.used(), other.used())

    def test_no_bits_leaves_all_as_it_was(self):
        for most, row, draws, many in (
            (1, "", (), 2),
            (1, "1", (), 3),
            (1, "11 1", (), 3),
            (1, "10 11 1", (3,), 3),
            (2, "00", (), 3),
            (2, "110 0", (), 3),
            (2, "101 1", (3,), 3),
            (2, "101 11 1", (3,), 3),
            (4, "1", (), 1),
            (4, "11 1", (1,), 4),
            (1024, "11111111111110 00000000101", (), 10),
        ):
            bits = begun((0, 1), row_of(row))
            keeper = Keeper(bits, most)
            for below in draws:
                keeper.draw(below)
            room = keeper.room()
            used, left = bits.used(), bits.left()
            for turn in range(3):
                self.assert_raises_just(NoBits, keeper.draw, many)
                self.assert_room(keeper, room)
                self.assertEqual((bits.used(), bits.left()), (used, left))

    def test_behind_a_refusal_it_draws_as_if_there_were_none(self):
        bits = Bits(row_of("101 11"))
        keeper = Keeper(bits, 2)
        self.assertEqual(keeper.draw(3), 2)
        self.assert_raises_just(NoBits, keeper.draw, 3)
        self.assertEqual(keeper.draw(1), 0)
        self.assertEqual(keeper.draw(2), 1)
        self.assertEqual((keeper.room(), bits.used()), ((1, 2), 4))

    def test_two_of_one_bits_do_not_touch_one_another(self):
        bits = Bits(row_of("101 000 00 01"))
        one = Keeper(bits, 2)
        other = Keeper(bits, 2)
        self.assertEqual(one.draw(3), 2)
        self.assert_room(other, (0, 1))
        self.assertEqual(other.draw(3), 0)
        self.assert_room(one, (1, 2))
        self.assert_room(other, (0, 2))
        self.assertEqual(one.draw(3), 1)
        self.assert_room(other, (0, 2))
        self.assertEqual(other.draw(3), 1)
        self.assert_room(one, (1, 2))
        self.assertEqual((bits.used(), bits.left()), (10, 0))

    def test_each_number_with_each_number_left_comes_of_as_many_rows(self):
        for most, draws, long in (
            (1, (3,), 6), (1, (5,), 8), (2, (3,), 7), (3, (3,), 9), (4, (5,), 9), (3, (1,), 5), (7, (2,), 6),
            (2, (3, 3), 10), (2, (2, 5), 10), (3, (3, 2), 10), (4, (1, 3), 9), (2, (3, 1, 2), 10), (1, (3, 5), 10),
        ):
            groups = defaultdict(Counter)
            for row in all_rows(long):
                bits = Bits(row)
                keeper = Keeper(bits, most)
                try:
                    told = tuple(keeper.draw(many) for many in draws)
                except NoBits:
                    continue
                left, size = keeper.room()
                groups[(bits.used(), size)][told + (left,)] += 1
            self.assertGreater(len(groups), 0)
            for (used, size), often in groups.items():
                due = set(itertools.product(*map(range, draws), range(size)))
                self.assertEqual(set(often), due, (most, draws, used, size))
                self.assertEqual(len(set(often.values())), 1, (most, draws, used, size))


if __name__ == "__main__":
    unittest.main()
