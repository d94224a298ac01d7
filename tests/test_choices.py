"""Point 6.2, and what 0.2 says of it: choices and rows of parts, and their places."""

import itertools
import math
import unittest

from bitdraws.orders import choice_at, parts_at, place_of_choice, ways
from tests.drawing import DrawTest


class WaysTest(unittest.TestCase):
    def test_by_hand(self):
        for many, row in enumerate(((1,), (1, 1), (1, 2, 1), (1, 3, 3, 1), (1, 4, 6, 4, 1), (1, 5, 10, 10, 5, 1))):
            self.assertEqual(tuple(ways(many, some) for some in range(many + 1)), row)
        self.assertEqual(ways(52, 5), 2598960)
        self.assertEqual(ways(10 ** 20, 1), 10 ** 20)
        self.assertEqual(ways(10 ** 20, 10 ** 20 - 1), 10 ** 20)
        self.assertEqual(ways(10 ** 20, 10 ** 20), 1)

    def test_some_below_0_or_above_many(self):
        for many in (0, 1, 2, 5, 30, 10 ** 20):
            for some in (-10 ** 20, -many - 1, -2, -1, many + 1, many + 2, 2 * many + 1, 10 ** 30):
                self.assertEqual(ways(many, some), 0, (many, some))

    def test_all_small_ones_and_greater_ones(self):
        for many in range(40):
            for some in range(many + 1):
                self.assertEqual(ways(many, some), math.comb(many, some))
        for many, some in ((100, 50), (1000, 3), (1000, 997), (2000, 700)):
            self.assertEqual(ways(many, some), math.comb(many, some))
        self.assertIs(type(ways(4, 2)), int)


class ChoiceTest(DrawTest):
    def test_by_hand(self):
        for many, some, place, choice in (
            (0, 0, 0, ()),
            (5, 0, 0, ()),
            (5, 5, 0, (0, 1, 2, 3, 4)),
            (4, 1, 0, (0,)),
            (4, 1, 3, (3,)),
            (4, 2, 2, (0, 3)),
            (4, 2, 3, (1, 2)),
            (5, 3, 0, (0, 1, 2)),
            (5, 3, 5, (0, 3, 4)),
            (5, 3, 6, (1, 2, 3)),
            (5, 3, 9, (2, 3, 4)),
        ):
            self.assertEqual(choice_at(many, some, place), choice, (many, some, place))
            self.assertEqual(place_of_choice(many, choice), place, (many, choice))

    def test_all_small_ones_as_they_rise(self):
        for many in range(9):
            for some in range(many + 1):
                choices = list(itertools.combinations(range(many), some))
                places = list(range(len(choices)))
                self.assertEqual([choice_at(many, some, place) for place in places], choices, (many, some))
                self.assertEqual([place_of_choice(many, choice) for choice in choices], places, (many, some))

    def test_no_place_on_both_sides(self):
        for many in range(7):
            for some in range(many + 1):
                self.assert_nowhere(choice_at, math.comb(many, some), many, some)
        self.assert_nowhere(choice_at, math.comb(100, 50), 100, 50)

    def test_no_place_where_there_is_no_choice(self):
        for many in (0, 1, 2, 5, 20):
            for some in (-10, -1, many + 1, many + 2, 3 * many + 4):
                self.assert_nowhere(choice_at, 0, many, some)

    def test_greater_ones(self):
        for many, some in ((60, 30), (100, 3), (100, 97), (300, 150), (1000, 2), (10 ** 12, 4), (10 ** 30, 2)):
            count = math.comb(many, some)
            self.assertEqual(choice_at(many, some, 0), tuple(range(some)))
            self.assertEqual(choice_at(many, some, 1), tuple(range(some - 1)) + (some,))
            self.assertEqual(choice_at(many, some, count - 1), tuple(range(many - some, many)))
            for place in (1, count // 2, count // 3, count * 5 // 7, count - 2):
                choice = choice_at(many, some, place)
                self.assertEqual(len(choice), some)
                self.assertTrue(all(one < other for one, other in zip((-1,) + choice, choice + (many,))))
                self.assertEqual(place_of_choice(many, choice), place)

    def test_they_rise_with_their_places(self):
        count = math.comb(40, 12)
        choices = [choice_at(40, 12, count * part // 997) for part in range(997)]
        self.assertEqual(choices, sorted(choices))
        self.assertEqual(len(set(choices)), 997)

    def test_kinds(self):
        told = choice_at(3, 2, 0)
        self.assertEqual((type(told), type(told[0]), type(place_of_choice(3, told))), (tuple, int, int))


class PartsTest(DrawTest):
    def test_by_hand(self):
        for total, many, all_parts in (
            (0, 0, ((),)),
            (0, 1, ((0,),)),
            (0, 3, ((0, 0, 0),)),
            (4, 1, ((4,),)),
            (1, 3, ((0, 0, 1), (0, 1, 0), (1, 0, 0))),
            (2, 2, ((0, 2), (1, 1), (2, 0))),
            (2, 3, ((0, 0, 2), (0, 1, 1), (0, 2, 0), (1, 0, 1), (1, 1, 0), (2, 0, 0))),
        ):
            told = tuple(parts_at(total, many, place) for place in range(len(all_parts)))
            self.assertEqual(told, all_parts, (total, many))

    def test_all_small_ones_as_they_rise(self):
        for total in range(7):
            for many in range(5):
                rows = itertools.product(range(total + 1), repeat=many)
                due = [row for row in rows if sum(row) == total]
                told = [parts_at(total, many, place) for place in range(len(due))]
                self.assertEqual(told, due, (total, many))
                self.assert_nowhere(parts_at, len(due), total, many)

    def test_parts_of_none(self):
        self.assertEqual(parts_at(0, 0, 0), ())
        self.assert_nowhere(parts_at, 1, 0, 0)
        for total in (1, 2, 3, 100):
            self.assert_nowhere(parts_at, 0, total, 0)

    def test_below_0_there_are_none(self):
        for total, many in ((-1, 0), (-1, 1), (-1, 3), (-4, 3)):
            self.assert_nowhere(parts_at, 0, total, many)

    def test_greater_ones(self):
        for total, many in ((30, 40), (1000, 3), (3, 500), (10 ** 12, 4)):
            count = math.comb(total + many - 1, many - 1)
            self.assertEqual(parts_at(total, many, 0), (0,) * (many - 1) + (total,))
            self.assertEqual(parts_at(total, many, 1), (0,) * (many - 2) + (1, total - 1))
            self.assertEqual(parts_at(total, many, count - 1), (total,) + (0,) * (many - 1))
            told = [parts_at(total, many, count * part // 31) for part in range(31)]
            self.assertEqual(told, sorted(told))
            self.assertEqual(len(set(told)), 31)
            for row in told:
                self.assertEqual((len(row), sum(row)), (many, total))
                self.assertGreaterEqual(min(row), 0)
            self.assert_nowhere(parts_at, count, total, many)

    def test_asked_again_the_same_is_told(self):
        for turn in range(2):
            self.assertEqual(parts_at(5, 3, 7), (1, 1, 3))
            self.assertEqual(parts_at(3, 5, 7), (0, 0, 2, 0, 1))
            self.assertIs(type(parts_at(5, 3, 7)), tuple)


if __name__ == "__main__":
    unittest.main()
