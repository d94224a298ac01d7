"""Point 6.1, and what 0.2 says of it: figures, orders and swaps, and their places."""

import itertools
import math
import unittest

from bitdraws.orders import by_swaps, figures_at, order_at, place_of_figures, place_of_order, swaps_of
from tests.drawing import DrawTest

LETTERS = ("a", "b", "c", "d")
SMALL_RADICES = [radices for many in range(4) for radices in itertools.product((1, 2, 3, 4), repeat=many)]


def figures_for(many):
    """All rows of figures by which a row so long may be swapped, the one for the last place first."""
    return list(itertools.product(*[range(place + 1) for place in range(many - 1, 0, -1)]))


class FiguresTest(DrawTest):
    def test_by_hand(self):
        for radices, place, figures in (
            ((), 0, ()),
            ((1,), 0, (0,)),
            ((1, 1, 1), 0, (0, 0, 0)),
            ((5,), 3, (3,)),
            ((2, 3), 0, (0, 0)),
            ((2, 3), 2, (0, 2)),
            ((2, 3), 3, (1, 0)),
            ((2, 3), 5, (1, 2)),
            ((3, 2), 3, (1, 1)),
            ((3, 1, 2), 5, (2, 0, 1)),
            ((4, 3, 2), 17, (2, 2, 1)),
            ((10, 10, 10, 10), 1984, (1, 9, 8, 4)),
        ):
            self.assertEqual(figures_at(radices, place), figures, (radices, place))
            self.assertEqual(place_of_figures(radices, figures), place, (radices, figures))

    def test_all_places_as_they_rise(self):
        for radices in SMALL_RADICES:
            count = math.prod(radices)
            told = [figures_at(radices, place) for place in range(count)]
            self.assertEqual(told, list(itertools.product(*map(range, radices))), radices)
            self.assertEqual([place_of_figures(radices, figures) for figures in told], list(range(count)))

    def test_no_place_on_both_sides(self):
        for radices in SMALL_RADICES + [(10 ** 20, 7), (2,) * 100]:
            self.assert_nowhere(figures_at, math.prod(radices), radices)

    def test_below_a_radix_under_1_there_is_no_figure(self):
        for radices in ((0,), (2, 0, 3), (-1, -2)):
            self.assert_nowhere(figures_at, 0, radices)

    def test_great_ones(self):
        radices = (10 ** 20, 7, 10 ** 30)
        for figures in ((0, 0, 0), (0, 6, 5), (12345, 0, 10 ** 29), (10 ** 20 - 1, 6, 10 ** 30 - 1)):
            place = (figures[0] * 7 + figures[1]) * 10 ** 30 + figures[2]
            self.assertEqual(place_of_figures(radices, figures), place)
            self.assertEqual(figures_at(radices, place), figures)
        self.assertEqual(figures_at((2,) * 2000, 1), (0,) * 1999 + (1,))

    def test_kinds(self):
        told = figures_at((2, 2), 1)
        self.assertIs(type(told), tuple)
        self.assertEqual([type(figure) for figure in told], [int, int])
        self.assertEqual(type(place_of_figures((), ())), int)


class OrderTest(DrawTest):
    def test_by_hand(self):
        for many, place, order in (
            (0, 0, ()),
            (1, 0, (0,)),
            (2, 0, (0, 1)),
            (2, 1, (1, 0)),
            (3, 3, (1, 2, 0)),
            (3, 4, (2, 0, 1)),
            (4, 9, (1, 2, 3, 0)),
            (4, 22, (3, 2, 0, 1)),
        ):
            self.assertEqual(order_at(many, place), order)
            self.assertEqual(place_of_order(order), place)

    def test_all_orders_of_none_to_five_as_they_rise(self):
        for many in range(6):
            count = math.factorial(many)
            told = [order_at(many, place) for place in range(count)]
            self.assertEqual(told, list(itertools.permutations(range(many))))
            self.assertEqual([place_of_order(order) for order in told], list(range(count)))

    def test_no_place_on_both_sides(self):
        for many in (0, 1, 2, 3, 5, 30):
            self.assert_nowhere(order_at, math.factorial(many), many)

    def test_greater_ones(self):
        for many in (10, 21, 60, 200):
            count = math.factorial(many)
            first = tuple(range(many))
            for place, order in (
                (0, first), (1, first[:-2] + (many - 1, many - 2)), (count - 1, first[::-1]),
                (count // many, (1, 0) + first[2:]), (count // many - 1, (0,) + first[:0:-1]),
            ):
                self.assertEqual(order_at(many, place), order)
                self.assertEqual(place_of_order(order), place)
            for place in (count // 2, count // 3, count * 5 // 7, count - 12345):
                order = order_at(many, place)
                self.assertEqual(sorted(order), list(range(many)))
                self.assertEqual(place_of_order(order), place)

    def test_they_rise_with_their_places(self):
        places = [math.factorial(20) * part // 997 for part in range(997)]
        orders = [order_at(20, place) for place in places]
        self.assertEqual(orders, sorted(orders))
        self.assertEqual(len(set(orders)), 997)


class SwapsTest(unittest.TestCase):
    def test_by_hand(self):
        for figures, told in (
            ((3, 2, 1), "abcd"),
            ((0, 0, 0), "bcda"),
            ((0, 2, 1), "dbca"),
            ((2, 0, 1), "dbac"),
            ((1, 2, 0), "dacb"),
            ((3, 2, 0), "bacd"),
            ((3, 0, 1), "cbad"),
            ((2, 1, 0), "dabc"),
        ):
            self.assertEqual(by_swaps(LETTERS, figures), tuple(told), figures)
            self.assertEqual(swaps_of(LETTERS, tuple(told)), figures, told)

    def test_of_none_and_of_one(self):
        for row in ((), ("x",), (7,)):
            self.assertEqual(by_swaps(row, ()), row)
            self.assertEqual(swaps_of(row, row), ())

    def test_of_two(self):
        self.assertEqual(by_swaps((5, 8), (0,)), (8, 5))
        self.assertEqual(by_swaps((5, 8), (1,)), (5, 8))
        self.assertEqual(swaps_of((5, 8), (8, 5)), (0,))
        self.assertEqual(swaps_of((5, 8), (5, 8)), (1,))

    def test_like_things(self):
        self.assertEqual(by_swaps((5, 5, 6), (0, 1)), (6, 5, 5))
        self.assertEqual(by_swaps((5, 5, 6), (1, 0)), (6, 5, 5))
        self.assertEqual(by_swaps(("a",) * 4, (0, 0, 0)), ("a",) * 4)

    def test_all_figures_lead_to_each_order_once(self):
        for many in range(6):
            row = tuple(range(many))
            told = [by_swaps(row, figures) for figures in figures_for(many)]
            self.assertEqual(sorted(told), list(itertools.permutations(row)))

    def test_each_leads_back_to_the_other(self):
        for row in ((), (3,), (9, 4), ("x", "y", "z"), (40, "b", 7, "a"), (2, 0, 4, 1, 3)):
            for figures in figures_for(len(row)):
                self.assertEqual(swaps_of(row, by_swaps(row, figures)), figures)
            for other in itertools.permutations(row):
                self.assertEqual(by_swaps(row, swaps_of(row, other)), other)

    def test_a_long_row(self):
        row = tuple(range(300))
        other = tuple(number * 7 % 300 for number in row)
        figures = swaps_of(row, other)
        self.assertEqual(len(figures), 299)
        self.assertTrue(all(0 <= figure <= place for place, figure in zip(range(299, 0, -1), figures)))
        self.assertEqual(by_swaps(row, figures), other)

    def test_the_rows_are_not_changed(self):
        row = ("a", "b", "c")
        other = ("c", "a", "b")
        figures = (0, 0)
        for turn in range(2):
            self.assertEqual(by_swaps(row, figures), ("b", "c", "a"))
            self.assertEqual(swaps_of(row, other), (1, 0))
        self.assertEqual((row, other, figures), (("a", "b", "c"), ("c", "a", "b"), (0, 0)))
        self.assertEqual((type(by_swaps(row, figures)), type(swaps_of(row, other))), (tuple, tuple))


if __name__ == "__main__":
    unittest.main()
