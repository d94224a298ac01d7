"""Points 7.1 and 7.2, and what 0.2 and 0.3 say of them: trees, their places, and trees that grow."""

import itertools
import unittest
from collections import Counter

from bitdraws.bits import Bits, bits_of
from bitdraws.errors import NoBits
from bitdraws.evens import even
from bitdraws.shapes import count_trees, grow, grown, place_of_tree, tree, tree_at
from tests.drawing import DrawTest

L = ()
P = (L, L)
TWO = ((L, P), (P, L))
THREE = ((L, (L, P)), (L, (P, L)), (P, P), ((L, P), L), ((P, L), L))


def all_trees(many):
    """By how many pairs the left part has, then by it, then by the right part."""
    if many == 0:
        return [()]
    return [
        (left, right)
        for pairs in range(many)
        for left in all_trees(pairs)
        for right in all_trees(many - 1 - pairs)
    ]


def pairs_in(whole):
    return 0 if whole == () else 1 + pairs_in(whole[0]) + pairs_in(whole[1])


def grown_once(whole, number, is_left):
    """The tree with the part of this number grown; the part is counted from the tree itself on."""
    if number == 0:
        return (L, whole) if is_left else (whole, L)
    of_left = 2 * pairs_in(whole[0]) + 1
    if number <= of_left:
        return (grown_once(whole[0], number - 1, is_left), whole[1])
    return (whole[0], grown_once(whole[1], number - 1 - of_left, is_left))


def figures_for(turns):
    return itertools.product(*[range(2 * (2 * turn + 1)) for turn in range(turns)])


def chain(many, side):
    whole = L
    for turn in range(many):
        whole = (whole, L) if side == 0 else (L, whole)
    return whole


def treeing(many):
    return lambda bits: tree(bits, many)


def growing(many):
    return lambda bits: grow(bits, many)


class CountTest(unittest.TestCase):
    def test_by_hand(self):
        self.assertEqual([count_trees(many) for many in range(11)], [1, 1, 2, 5, 14, 42, 132, 429, 1430, 4862, 16796])
        self.assertEqual(count_trees(16), 35357670)
        self.assertEqual(count_trees(30), 3814986502092304)
        self.assertIs(type(count_trees(0)), int)

    def test_as_many_as_there_are(self):
        for many in range(9):
            self.assertEqual(count_trees(many), len(all_trees(many)))

    def test_by_left_and_right_parts(self):
        counts = [count_trees(many) for many in range(60)]
        for many in range(59):
            self.assertEqual(counts[many + 1], sum(counts[left] * counts[many - left] for left in range(many + 1)))


class PlaceTest(DrawTest):
    def test_by_hand(self):
        self.assertEqual(tree_at(0, 0), L)
        self.assertEqual(tree_at(1, 0), P)
        self.assertEqual(tuple(tree_at(2, place) for place in range(2)), TWO)
        self.assertEqual(tuple(tree_at(3, place) for place in range(5)), THREE)
        for trees in ((L,), (P,), TWO, THREE):
            self.assertEqual([place_of_tree(one) for one in trees], list(range(len(trees))))

    def test_all_trees_of_none_to_seven_pairs(self):
        for many in range(8):
            trees = all_trees(many)
            places = list(range(len(trees)))
            self.assertEqual([tree_at(many, place) for place in places], trees)
            self.assertEqual([place_of_tree(one) for one in trees], places)

    def test_no_place_on_both_sides(self):
        for many, count in ((0, 1), (1, 1), (2, 2), (3, 5), (4, 14), (5, 42), (16, 35357670)):
            self.assert_nowhere(tree_at, count, many)

    def test_no_tree_has_fewer_pairs_than_none(self):
        self.assertEqual(count_trees(-1), 0)
        self.assert_nowhere(tree_at, 0, -1)

    def test_greater_ones_lead_back(self):
        for many in tuple(range(8, 17)) + (40, 100):
            count = count_trees(many)
            for part in range(50):
                place = (count - 1) * part // 49
                one = tree_at(many, place)
                self.assertEqual(pairs_in(one), many)
                self.assertEqual(place_of_tree(one), place)

    def test_the_first_and_the_last(self):
        for many in (5, 16, 60, 300):
            last = count_trees(many) - 1
            self.assertEqual(tree_at(many, 0), chain(many, 1))
            self.assertEqual(tree_at(many, last), chain(many, 0))
            self.assertEqual(place_of_tree(chain(many, 1)), 0)
            self.assertEqual(place_of_tree(chain(many, 0)), last)

    def test_far_deeper_ones_than_calls_may_stand_within_one_another(self):
        self.assertEqual(place_of_tree(tree_at(3000, 0)), 0)
        self.assertEqual(place_of_tree(tree_at(3000, 1)), 1)


class TreeTest(DrawTest):
    def test_by_hand(self):
        self.assert_draws(treeing(0), (("", L),))
        self.assert_draws(treeing(1), (("", P),))
        self.assert_draws(treeing(2), (("0", TWO[0]), ("1", TWO[1])))
        self.assert_draws(treeing(3), (
            ("000", THREE[0]), ("001", THREE[1]), ("010", THREE[2]), ("011", THREE[3]), ("100", THREE[4]),
            ("101 1", THREE[1]), ("111 0", THREE[4]), ("111 1 010", THREE[2]),
        ))

    def test_at_the_place_of_one_even_number(self):
        stream = bits_of(12, 300)
        for many in (4, 7, 16, 40):
            for skip in range(15):
                bits = Bits(stream[skip:])
                other = Bits(stream[skip:])
                self.assertEqual(tree(bits, many), tree_at(many, even(other, count_trees(many))))
                self.assertEqual(bits.used(), other.used())

    def test_each_tree_is_told_by_as_many_rows(self):
        for many, longs in ((2, (1, 3)), (3, (3, 4, 7, 9)), (4, (4, 6, 9)), (5, (6, 8, 10))):
            for long in longs:
                self.assert_each_as_often(treeing(many), all_trees(many), long)

    def test_too_few_bits(self):
        self.assert_refused(NoBits, treeing(16), (0,) * 25)
        self.assert_refused(NoBits, treeing(3), (1, 1, 1, 1, 1))


class GrownTest(unittest.TestCase):
    def test_no_turn_and_one(self):
        self.assertEqual(grown(()), L)
        self.assertEqual(grown((0,)), P)
        self.assertEqual(grown((1,)), P)

    def test_the_second_turn(self):
        for first in (0, 1):
            told = [grown((first, figure)) for figure in range(6)]
            self.assertEqual(told, [(L, P), (P, L), (P, L), (P, L), (L, P), (L, P)])

    def test_the_third_turn(self):
        for ahead in ((0, 0), (1, 0), (0, 4), (1, 5)):
            told = [grown(ahead + (figure,)) for figure in range(10)]
            self.assertEqual(told, [
                (L, (L, P)), ((L, P), L), (P, P), (P, P), (L, (L, P)), (L, (P, L)),
                (L, (P, L)), (L, (P, L)), (L, (L, P)), (L, (L, P)),
            ])
        for ahead in ((0, 1), (1, 2), (0, 3)):
            told = [grown(ahead + (figure,)) for figure in range(10)]
            self.assertEqual(told, [
                (L, (P, L)), ((P, L), L), ((L, P), L), ((P, L), L), ((P, L), L), ((P, L), L),
                ((L, P), L), ((L, P), L), (P, P), (P, P),
            ])

    def test_turn_by_turn(self):
        bits = Bits(bits_of(14, 20000))
        for run in range(20):
            figures = tuple(even(bits, 2 * (2 * turn + 1)) for turn in range(40))
            whole = L
            for turn, figure in enumerate(figures):
                whole = grown_once(whole, figure // 2, figure % 2 == 0)
                self.assertEqual(grown(figures[:turn + 1]), whole)

    def test_each_tree_comes_of_as_many_figures(self):
        for turns, each in ((1, 2), (2, 6), (3, 24), (4, 120)):
            often = Counter(grown(figures) for figures in figures_for(turns))
            self.assertEqual(often, {one: each for one in all_trees(turns)})

    def test_the_figures_are_not_changed(self):
        figures = (0, 1, 2)
        for turn in range(2):
            self.assertEqual(grown(figures), ((L, P), L))
        self.assertEqual(figures, (0, 1, 2))


class GrowTest(DrawTest):
    def test_by_hand(self):
        self.assert_draws(growing(0), (("", L),))
        self.assert_draws(growing(1), (("0", P), ("1", P)))
        self.assert_draws(growing(2), (
            ("0 000", (L, P)), ("1 001", (P, L)), ("0 010", (P, L)), ("1 101", (L, P)), ("0 110 01", (P, L)),
        ))
        self.assert_draws(growing(3), (
            ("0 000 0001", ((L, P), L)), ("0 000 0101", (L, (P, L))), ("1 001 1001", (P, P)),
            ("1 111 01 0010", (P, P)), ("0 111 11 01 0000", (L, (L, P))),
        ))

    def test_grown_by_even_figures(self):
        stream = bits_of(13, 600)
        for many in (4, 9, 30):
            for skip in range(15):
                bits = Bits(stream[skip:])
                other = Bits(stream[skip:])
                figures = tuple(even(other, 2 * (2 * turn + 1)) for turn in range(many))
                self.assertEqual(grow(bits, many), grown(figures))
                self.assertEqual(bits.used(), other.used())

    def test_each_tree_is_told_by_as_many_rows(self):
        for many, longs in ((1, (1, 3)), (2, (4, 7)), (3, (8, 10, 12)), (4, (12, 13))):
            for long in longs:
                self.assert_each_as_often(growing(many), all_trees(many), long)

    def test_too_few_bits_behind_some(self):
        for many, row in ((1, ()), (2, (0,)), (2, (1, 1, 1, 1)), (3, (0, 0, 0, 0, 1, 1, 1)), (200, bits_of(1, 1000))):
            self.assert_refused(NoBits, growing(many), row)


if __name__ == "__main__":
    unittest.main()
