"""Point 6.3, and what 0.2 and 0.3 say of it: rows shuffled, orders and choices drawn, and things kept."""

import itertools
import unittest

from bitdraws.bits import Bits, bits_of
from bitdraws.errors import NoBits, NoPlace
from bitdraws.evens import even
from bitdraws.orders import Kept, by_swaps, choice, choice_at, order, order_at, shuffled
from tests.drawing import DrawTest, all_rows, begun, how_often, row_of


def shuffling(row):
    return lambda bits: shuffled(bits, row)


def ordering(many):
    return lambda bits: order(bits, many)


def choosing(many, some):
    return lambda bits: choice(bits, many, some)


def keeping(room, things):
    """A draw that tells what is kept of these things."""
    def keep(bits):
        keeper = Kept(bits, room)
        for thing in things:
            keeper.tell(thing)
        return keeper.kept()
    return keep


class ShuffledTest(DrawTest):
    def test_of_none_and_of_one_no_bit_is_taken(self):
        for row in ((), (5,), ("x",)):
            self.assert_draws(shuffling(row), (("", row),))

    def test_of_two(self):
        self.assert_draws(shuffling(("a", "b")), (("0", ("b", "a")), ("1", ("a", "b"))))

    def test_of_three(self):
        # Two bits for the last place, then one for place 1.
        self.assert_draws(shuffling(("a", "b", "c")), (
            ("00 0", ("b", "c", "a")), ("00 1", ("c", "b", "a")),
            ("01 0", ("c", "a", "b")), ("01 1", ("a", "c", "b")),
            ("10 0", ("b", "a", "c")), ("10 1", ("a", "b", "c")),
            ("11 01 1", ("a", "c", "b")), ("11 11 00 0", ("b", "c", "a")),
        ))

    def test_of_four(self):
        self.assert_draws(shuffling((1, 2, 3, 4)), (
            ("11 10 1", (1, 2, 3, 4)), ("00 00 0", (2, 3, 4, 1)), ("00 10 1", (4, 2, 3, 1)),
            ("01 10 0", (4, 1, 3, 2)), ("10 11 00 1", (4, 2, 1, 3)),
        ))

    def test_like_things(self):
        self.assert_draws(shuffling((7, 7)), (("0", (7, 7)), ("1", (7, 7))))
        self.assert_draws(shuffling((7, 7, 8)), (("00 0", (7, 8, 7)), ("10 0", (7, 7, 8))))

    def test_by_swaps_of_even_figures(self):
        stream = bits_of(4, 400)
        for many in range(12):
            row = tuple(range(many))
            for skip in range(10):
                bits = Bits(stream[skip:])
                other = Bits(stream[skip:])
                figures = tuple(even(other, place + 1) for place in range(many - 1, 0, -1))
                self.assertEqual(shuffled(bits, row), by_swaps(row, figures))
                self.assertEqual(bits.used(), other.used())

    def test_each_order_is_told_by_as_many_rows(self):
        for many, longs in ((2, (1, 3)), (3, (3, 5, 8)), (4, (5, 8, 10))):
            row = tuple(range(many))
            for long in longs:
                self.assert_each_as_often(shuffling(row), itertools.permutations(row), long)

    def test_the_row_is_not_changed(self):
        row = ("a", "b", "c")
        for turn in range(2):
            self.assertEqual(shuffled(Bits((0, 0, 0)), row), ("b", "c", "a"))
        self.assertEqual(row, ("a", "b", "c"))

    def test_a_long_row(self):
        row = tuple(range(500))
        told = shuffled(Bits(bits_of(8, 9000)), row)
        self.assertEqual(tuple(sorted(told)), row)
        self.assertNotEqual(told, row)
        self.assert_refused(NoBits, shuffling(row), bits_of(8, 1000))


class OrderDrawTest(DrawTest):
    def test_of_none_and_of_one_no_bit_is_taken(self):
        self.assert_draws(ordering(0), (("", ()),))
        self.assert_draws(ordering(1), (("", (0,)),))

    def test_by_hand(self):
        self.assert_draws(ordering(2), (("0", (0, 1)), ("1", (1, 0))))
        self.assert_draws(ordering(3), (
            ("000", (0, 1, 2)), ("011", (1, 2, 0)), ("101", (2, 1, 0)), ("110 01", (0, 2, 1)), ("111 11 01", (2, 1, 0)),
        ))
        self.assert_draws(ordering(4), (("01001", (1, 2, 3, 0)), ("10111", (3, 2, 1, 0))))

    def test_at_the_place_of_one_even_number(self):
        stream = bits_of(6, 300)
        for many, count in ((5, 120), (8, 40320), (12, 479001600)):
            for skip in range(20):
                bits = Bits(stream[skip:])
                other = Bits(stream[skip:])
                self.assertEqual(order(bits, many), order_at(many, even(other, count)))
                self.assertEqual(bits.used(), other.used())

    def test_each_order_is_told_by_as_many_rows(self):
        for many, longs in ((2, (1, 3)), (3, (3, 5, 8)), (4, (5, 8, 10))):
            for long in longs:
                self.assert_each_as_often(ordering(many), itertools.permutations(range(many)), long)


class ChoiceDrawTest(DrawTest):
    def test_one_choice_alone_takes_no_bit(self):
        for many in range(6):
            self.assert_draws(choosing(many, 0), (("", ()),))
            self.assert_draws(choosing(many, many), (("", tuple(range(many))),))

    def test_by_hand(self):
        self.assert_draws(choosing(2, 1), (("0", (0,)), ("1", (1,))))
        self.assert_draws(choosing(4, 2), (
            ("000", (0, 1)), ("011", (1, 2)), ("101", (2, 3)), ("110 01", (0, 2)), ("111 11 01", (2, 3)),
        ))
        self.assert_draws(choosing(5, 4), (("000", (0, 1, 2, 3)), ("100", (1, 2, 3, 4)), ("101 1", (0, 1, 2, 4))))

    def test_at_the_place_of_one_even_number(self):
        stream = bits_of(7, 300)
        for many, some, count in ((6, 3, 20), (12, 4, 495), (30, 15, 155117520), (10 ** 9, 1, 10 ** 9)):
            for skip in range(20):
                bits = Bits(stream[skip:])
                other = Bits(stream[skip:])
                self.assertEqual(choice(bits, many, some), choice_at(many, some, even(other, count)))
                self.assertEqual(bits.used(), other.used())

    def test_each_choice_is_told_by_as_many_rows(self):
        for many, some, longs in ((4, 2, (3, 5, 8)), (5, 2, (4, 6, 9)), (6, 3, (5, 8, 10)), (7, 6, (3, 6))):
            for long in longs:
                self.assert_each_as_often(choosing(many, some), itertools.combinations(range(many), some), long)

    def test_no_choice_is_told_ahead_of_no_bits(self):
        for many, some in ((0, 1), (0, -1), (1, 2), (3, 4), (3, -1), (5, 50), (5, -50)):
            for row in ((), (1,), (0, 1, 1, 0), bits_of(2, 100)):
                self.assert_refused(NoPlace, choosing(many, some), row)


class KeptTest(DrawTest):
    def assert_stands(self, keeper, kept, many):
        # Twice, for being asked changes nothing.
        for turn in range(2):
            self.assertEqual((keeper.kept(), keeper.many()), (kept, many))
            self.assertEqual((type(keeper.kept()), type(keeper.many())), (tuple, int))

    def assert_tells(self, room, turns):
        """Turns are: the thing, the bits taken for it as a text, what is told, and what is kept then."""
        row = row_of("".join(text for thing, text, told, kept in turns))
        for behind in ((), (0, 1, 1)):
            bits = begun((1, 0), row + behind)
            keeper = Kept(bits, room)
            self.assert_stands(keeper, (), 0)
            used = 2
            for number, (thing, text, told, kept) in enumerate(turns):
                self.assertEqual(keeper.tell(thing), told, (number, thing))
                used += len(row_of(text))
                self.assertEqual(bits.used(), used, (number, thing))
                self.assert_stands(keeper, kept, number + 1)

    def test_no_room(self):
        self.assert_tells(0, (("x", "", "x", ()), ("y", "0", "y", ()), (5, "01", 5, ()), ("y", "11", "y", ())))

    def test_fewer_things_than_room(self):
        self.assert_tells(5, (("x", "", None, ("x",)), (3, "", None, ("x", 3)), ("x", "", None, ("x", 3, "x"))))

    def test_as_many_things_as_room(self):
        self.assert_tells(1, (("", "", None, ("",)),))
        self.assert_tells(2, ((0, "", None, (0,)), (0, "", None, (0, 0))))

    def test_room_for_one(self):
        first = ("a", "", None, ("a",))
        self.assert_tells(1, (first, ("b", "0", "a", ("b",)), ("c", "00", "b", ("c",)), ("d", "00", "c", ("d",))))
        self.assert_tells(1, (first, ("b", "1", "b", ("a",)), ("c", "01", "c", ("a",)), ("d", "11", "d", ("a",))))
        # Below 3 the number 3 of two bits leads anew.
        self.assert_tells(1, (first, ("b", "1", "b", ("a",)), ("c", "11 00", "a", ("c",))))
        self.assert_tells(1, (first, ("b", "1", "b", ("a",)), ("c", "11 10", "c", ("a",))))

    def test_room_for_two(self):
        first = ((10, "", None, (10,)), (11, "", None, (10, 11)))
        self.assert_tells(2, first + ((12, "00", 10, (12, 11)), (13, "01", 11, (12, 13)), (14, "000", 12, (14, 13))))
        self.assert_tells(2, first + ((12, "01", 11, (10, 12)), (13, "00", 10, (13, 12)), (14, "010", 14, (13, 12))))
        self.assert_tells(2, first + ((12, "10", 12, (10, 11)), (13, "10", 13, (10, 11)), (14, "001", 11, (10, 14))))
        self.assert_tells(2, first + ((12, "11 01", 11, (10, 12)), (13, "11", 13, (10, 12))))

    def test_whole_numbers_and_texts(self):
        self.assert_tells(2, (
            ("", "", None, ("",)), (-7, "", None, ("", -7)), ("a b", "01", -7, ("", "a b")),
            (10 ** 40, "00", "", (10 ** 40, "a b")), (0, "000", 10 ** 40, (0, "a b")),
        ))

    def test_a_tell_that_is_refused_changes_nothing(self):
        for room, row, things, kept in (
            (0, "", ("x",), ()),
            (0, "1", ("x", "y"), ()),
            (1, "", ("x",), ("x",)),
            (1, "0 1", ("x", "y"), ("y",)),
            (1, "0 11 1", ("x", "y"), ("y",)),
            (2, "", (4, 5), (4, 5)),
            (2, "1", (4, 5), (4, 5)),
            (2, "11 1", (4, 5), (4, 5)),
            (2, "01 0", (4, 5, 6), (4, 6)),
        ):
            bits = begun((1, 1), row_of(row))
            keeper = Kept(bits, room)
            for thing in things:
                keeper.tell(thing)
            used = bits.used()
            left = bits.left()
            for thing in ("w", 9, "w"):
                self.assert_raises_just(NoBits, keeper.tell, thing)
                self.assert_stands(keeper, kept, len(things))
                self.assertEqual((bits.used(), bits.left()), (used, left))

    def test_behind_a_refusal_it_goes_on_as_if_there_were_none(self):
        bits = Bits(row_of("01 0"))
        keeper = Kept(bits, 2)
        for thing in (4, 5):
            keeper.tell(thing)
        self.assertEqual(keeper.tell(6), 5)
        self.assert_raises_just(NoBits, keeper.tell, 7)
        bits.go_back(0)
        self.assertEqual(keeper.tell(8), 6)
        self.assert_stands(keeper, (4, 8), 4)

    def test_what_is_told_first_does_not_change_later(self):
        keeper = Kept(Bits((0, 0)), 1)
        keeper.tell("a")
        before = keeper.kept()
        keeper.tell("b")
        self.assertEqual((before, keeper.kept()), (("a",), ("b",)))

    def test_two_of_one_bits_do_not_touch_one_another(self):
        bits = Bits(row_of("0 1 00 01"))
        one = Kept(bits, 1)
        other = Kept(bits, 1)
        self.assertIsNone(one.tell("a"))
        self.assert_stands(other, (), 0)
        self.assertIsNone(other.tell("x"))
        self.assertEqual(one.tell("b"), "a")
        self.assert_stands(other, ("x",), 1)
        self.assertEqual(other.tell("y"), "y")
        self.assert_stands(one, ("b",), 2)
        self.assertEqual(one.tell("c"), "b")
        self.assertEqual(other.tell("z"), "z")
        self.assert_stands(one, ("c",), 3)
        self.assert_stands(other, ("x",), 3)
        self.assertEqual((bits.used(), bits.left()), (6, 0))

    def test_by_even_numbers_below_how_many_have_come(self):
        stream = bits_of(10, 500)
        for room in range(5):
            bits = Bits(stream)
            other = Bits(stream)
            keeper = Kept(bits, room)
            kept = []
            for number in range(60):
                due = None
                if number < room:
                    kept.append(number)
                else:
                    place = even(other, number + 1)
                    due = number
                    if place < room:
                        due, kept[place] = kept[place], number
                self.assertEqual(keeper.tell(number), due)
                self.assert_stands(keeper, tuple(kept), number + 1)
                self.assertEqual(bits.used(), other.used())

    def test_each_choice_is_kept_by_as_many_rows(self):
        for room, many, long in ((1, 2, 4), (1, 3, 7), (2, 3, 5), (1, 4, 10), (2, 4, 10), (3, 4, 6), (3, 5, 10), (4, 5, 8)):
            keep = keeping(room, range(many))
            self.assert_each_as_often(
                lambda bits: tuple(sorted(keep(bits))), itertools.combinations(range(many), room), long,
            )

    def test_none_is_kept_of_none(self):
        for row in all_rows(3):
            self.assert_stands(Kept(Bits(row), 2), (), 0)
        self.assertEqual(how_often(keeping(0, range(3)), 4), {(): 12, None: 4})


if __name__ == "__main__":
    unittest.main()
