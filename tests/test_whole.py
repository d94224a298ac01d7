"""Points 0.2, 0.3 and 0.4 and the interface over the whole program: refusals, and what is asked twice."""

import copy
import importlib
import inspect
import unittest

from bitdraws.bits import (
    Bits, bits_of, next_state, parted, split, state_after, state_before, woven,
)
from bitdraws.digits import are_figures, depth_sum, digits, expansion, value_of
from bitdraws.drawers import Drawer
from bitdraws.errors import DrawError, NoBits, NoPlace, NoShares, NoStep, NoText
from bitdraws.evens import even, mean_even, mean_simple, rooms, simple_even
from bitdraws.fair import evened, evened_on, ranked
from bitdraws.keeping import Keeper
from bitdraws.orders import (
    Kept, by_swaps, choice, choice_at, figures_at, order, order_at, parts_at, place_of_choice, place_of_figures,
    place_of_order, shuffled, swaps_of, ways,
)
from bitdraws.plans import by_plan, coin, deep, is_plan, mean_of, mean_pick, pick, plan_of, shares_of
from bitdraws.shapes import count_orders, count_trees, grow, grown, order_under, place_of_tree, tree, tree_at
from bitdraws.tables import by_table, is_table, number_by, shares_of_table, sums_of, table_of
from bitdraws.texts import read, written
from bitdraws.words import count_words, is_machine, is_taken, place_of_word, word, word_at
from tests.drawing import AGAIN, DrawTest, begun

INTERFACE = {
    "bits": {
        "next_state": 1, "bits_of": 2, "state_after": 2, "state_before": 1, "split": 2, "parted": 1, "woven": 2,
        "Bits": {"": 1, "take": 0, "used": 0, "left": 0, "go_back": 1},
    },
    "digits": {"digits": 3, "expansion": 2, "value_of": 2, "are_figures": 3, "depth_sum": 2},
    "evens": {"simple_even": 2, "even": 2, "mean_simple": 1, "mean_even": 1, "rooms": 1},
    "plans": {
        "is_plan": 1, "coin": 3, "shares_of": 1, "mean_of": 1, "deep": 1, "by_plan": 2, "plan_of": 1, "pick": 2,
        "mean_pick": 1,
    },
    "tables": {
        "table_of": 1, "shares_of_table": 2, "by_table": 3, "sums_of": 1, "number_by": 2, "is_table": 2,
    },
    "orders": {
        "figures_at": 2, "place_of_figures": 2, "order_at": 2, "place_of_order": 1, "by_swaps": 2, "swaps_of": 2,
        "ways": 2, "choice_at": 3, "place_of_choice": 2, "parts_at": 3, "shuffled": 2, "order": 2, "choice": 3,
        "Kept": {"": 2, "tell": 1, "kept": 0, "many": 0},
    },
    "shapes": {
        "count_trees": 1, "tree_at": 2, "place_of_tree": 1, "tree": 2, "grown": 1, "grow": 2, "count_orders": 1,
        "order_under": 2,
    },
    "words": {
        "is_machine": 1, "is_taken": 2, "count_words": 2, "word_at": 3, "place_of_word": 2, "word": 3,
    },
    "keeping": {"Keeper": {"": 2, "room": 0, "draw": 1}},
    "fair": {"evened": 1, "evened_on": 2, "ranked": 1},
    "drawers": {
        "Drawer": {"": 2, "even": 1, "pick": 1, "shuffled": 1, "choice": 2, "used": 0, "history": 0, "back": 0},
    },
    "texts": {"written": 1, "read": 1},
}
PLAN = ("ask", ("is", 3), ("ask", AGAIN, ("is", 9)))
NO_NUMBER = ("ask", AGAIN, ("ask", AGAIN, AGAIN))
MACHINE = (((0, 1), (0, None)), (0, 1))
NO_WORD = (((0, 0),), ())
TABLE = ((2, 1), (4, 1))
TREE = (((), ()), ((), ((), ())))
ROW = (0, 1, 1, 0, 1, 1, 1, 0, 0, 1)
LETTERS = ("a", "b", "c", "d")

# Draws that take bits, by name; each needs more than two bits that are 1.
DRAWS = {
    "simple_even": lambda bits: simple_even(bits, 5),
    "even": lambda bits: even(bits, 5),
    "pick": lambda bits: pick(bits, (1, 6, 1)),
    "coin": lambda bits: coin(bits, 3, 8),
    "by_plan": lambda bits: by_plan(bits, ("ask", ("is", 3), AGAIN)),
    "by_table": lambda bits: by_table(bits, TABLE, 4),
    "shuffled": lambda bits: shuffled(bits, LETTERS),
    "order": lambda bits: order(bits, 4),
    "choice": lambda bits: choice(bits, 5, 2),
    "tree": lambda bits: tree(bits, 3),
    "grow": lambda bits: grow(bits, 3),
    "order_under": lambda bits: order_under(bits, (None, None, 0, 1)),
    "word": lambda bits: word(bits, MACHINE, 3),
    "keeper": lambda bits: Keeper(bits, 2).draw(3),
}
# Draws of what is not there, with the class in which they are refused whatever bits there are.
OF_NOTHING = (
    (NoShares, lambda bits: by_plan(bits, NO_NUMBER)),
    (NoShares, lambda bits: by_plan(bits, ("ask", AGAIN, AGAIN))),
    (NoPlace, lambda bits: choice(bits, 3, 4)),
    (NoPlace, lambda bits: choice(bits, 3, -1)),
    (NoShares, lambda bits: word(bits, NO_WORD, 2)),
    (NoShares, lambda bits: word(bits, (((None, 0),), ()), 0)),
)
# What is refused without any bits.
REFUSED = (
    (NoShares, lambda: shares_of(NO_NUMBER)),
    (NoShares, lambda: mean_of(NO_NUMBER)),
    (NoPlace, lambda: figures_at((2, 3), 6)),
    (NoPlace, lambda: figures_at((2, 3), -1)),
    (NoPlace, lambda: order_at(3, 6)),
    (NoPlace, lambda: order_at(3, -1)),
    (NoPlace, lambda: choice_at(4, 2, 6)),
    (NoPlace, lambda: choice_at(4, 2, -1)),
    (NoPlace, lambda: choice_at(4, 5, 0)),
    (NoPlace, lambda: parts_at(2, 2, 3)),
    (NoPlace, lambda: parts_at(2, 2, -1)),
    (NoPlace, lambda: parts_at(2, 0, 0)),
    (NoPlace, lambda: tree_at(3, 5)),
    (NoPlace, lambda: tree_at(3, -1)),
    (NoPlace, lambda: word_at(MACHINE, 3, 5)),
    (NoPlace, lambda: word_at(MACHINE, 3, -1)),
    (NoPlace, lambda: word_at(NO_WORD, 3, 0)),
    (NoPlace, lambda: place_of_word(MACHINE, "abba")),
    (NoText, lambda: read("")),
    (NoText, lambda: read("?0.")),
    (NoText, lambda: read("00.")),
    (NoText, lambda: read("100.")),
    (NoText, lambda: read("0.1.")),
    (NoStep, lambda: Drawer(0, 5).back()),
    (NoPlace, lambda: Drawer(0, 5).choice(2, 3)),
    (NoPlace, lambda: Drawer(0, 0).choice(2, 3)),
    (NoBits, lambda: Drawer(0, 0).choice(3, 2)),
    (NoBits, lambda: Drawer(0, 1).even(3)),
    (NoBits, lambda: Drawer(0, 0).pick((1, 1))),
    (NoBits, lambda: Drawer(0, 1).shuffled(LETTERS)),
    (NoBits, lambda: Bits(()).take()),
    (NoPlace, lambda: Bits(ROW).go_back(1)),
    (NoPlace, lambda: Bits(ROW).go_back(-1)),
    (NoBits, lambda: told_twice(0)),
    (NoBits, lambda: told_twice(1)),
    (NoBits, lambda: Keeper(Bits((1, 1, 0)), 2).draw(3)),
)
# What is asked without bits, and answered.
ASKED = (
    lambda: next_state(5), lambda: bits_of(5, 20), lambda: state_after(5, 10 ** 6), lambda: state_before(5),
    lambda: split(5, 3), lambda: parted(ROW), lambda: woven(ROW, ROW[1:]), lambda: digits(3, 7, 9),
    lambda: expansion(5, 12), lambda: value_of("01", "10"), lambda: are_figures(5, 12, ("01", "10")),
    lambda: are_figures(5, 12, ["01", "10"]), lambda: depth_sum(5, 12), lambda: mean_simple(11), lambda: mean_even(11),
    lambda: rooms(11), lambda: is_plan(PLAN), lambda: is_plan(list(PLAN)), lambda: shares_of(PLAN), lambda: mean_of(PLAN),
    lambda: deep(PLAN), lambda: plan_of((3, 0, 2)), lambda: mean_pick((3, 0, 2)), lambda: table_of((3, 0, 2)),
    lambda: shares_of_table(TABLE, 4), lambda: is_table((1, 3), TABLE), lambda: is_table((1, 3), list(TABLE)),
    lambda: sums_of((3, 0, 2)), lambda: number_by((3, 3, 5), 3), lambda: figures_at((2, 3, 4), 17),
    lambda: place_of_figures((2, 3, 4), (1, 1, 1)), lambda: order_at(5, 77), lambda: place_of_order((3, 1, 0, 2)),
    lambda: by_swaps(LETTERS, (1, 0, 0)), lambda: swaps_of(LETTERS, ("d", "a", "c", "b")), lambda: ways(9, 4),
    lambda: choice_at(9, 4, 60), lambda: place_of_choice(9, (1, 4, 5, 8)), lambda: parts_at(6, 4, 33),
    lambda: count_trees(8), lambda: tree_at(8, 700), lambda: place_of_tree(TREE), lambda: grown((1, 3, 7, 2)),
    lambda: count_orders((None, 0, None, 0)), lambda: is_machine(MACHINE), lambda: is_machine(list(MACHINE)),
    lambda: is_taken(MACHINE, "abab"), lambda: count_words(MACHINE, 9), lambda: word_at(MACHINE, 9, 50),
    lambda: place_of_word(MACHINE, "abaab"), lambda: evened(ROW), lambda: evened_on(ROW, 3), lambda: ranked(ROW),
    lambda: written(PLAN), lambda: read("?3.?*9."), lambda: kept_of(2), lambda: drawn_by(3), lambda: drawn_of(4),
)


def told_twice(room):
    keeper = Kept(Bits(()), room)
    return [keeper.tell("a"), keeper.tell("b")]


def kept_of(room):
    keeper = Kept(Bits(bits_of(1, 50)), room)
    told = [keeper.tell(number) for number in range(9)]
    return (told, keeper.kept(), keeper.many())


def drawn_by(most):
    keeper = Keeper(Bits(bits_of(2, 50)), most)
    return ([keeper.draw(many) for many in (3, 1, 7)], keeper.room())


def drawn_of(seed):
    drawer = Drawer(seed, 50)
    told = [drawer.even(5), drawer.pick((1, 2)), drawer.shuffled(LETTERS), drawer.choice(5, 2), drawer.back()]
    return (told, drawer.history(), drawer.used())


def told_or_refused(asked):
    try:
        return asked()
    except DrawError as refusal:
        return type(refusal)


def parameters(thing):
    return len(inspect.signature(thing).parameters)


class InterfaceTest(unittest.TestCase):
    def test_everything_is_there_under_its_name(self):
        for module_name, names in INTERFACE.items():
            module = importlib.import_module("bitdraws." + module_name)
            for name, told in names.items():
                thing = getattr(module, name)
                self.assertEqual(thing.__module__, module.__name__)
                if isinstance(told, int):
                    self.assertEqual(parameters(thing), told, name)
                    continue
                for method, many in told.items():
                    if method == "":
                        self.assertEqual(parameters(thing), many, name)
                    else:
                        self.assertEqual(parameters(getattr(thing, method)), many + 1, (name, method))


class RefusalTest(DrawTest):
    def assert_just(self, error, asked, *handed):
        self.assert_raises_just(error, asked, *handed)
        with self.assertRaises(ValueError):
            asked(*handed)

    def test_each_has_its_class_and_no_other(self):
        for error, asked in REFUSED:
            for turn in range(2):
                self.assert_just(error, asked)

    def test_no_bits_of_all_draws(self):
        for name, draw in DRAWS.items():
            for row in ((), (1,), (1, 1)):
                with self.subTest(name=name, row=row):
                    self.assert_refused(NoBits, draw, row)
                    self.assert_just(NoBits, draw, Bits(row))

    def test_a_draw_that_lacks_its_last_bit_is_refused_and_then_drawn(self):
        stream = bits_of(50, 200)
        for name, draw in DRAWS.items():
            for skip in range(20):
                with self.subTest(name=name, skip=skip):
                    bits = Bits(stream[skip:])
                    told = draw(bits)
                    used = bits.used()
                    for short in range(used):
                        self.assert_refused(NoBits, draw, stream[skip:skip + short])
                    again = begun((1, 0, 1), stream[skip:skip + used])
                    self.assertEqual((draw(again), again.used(), again.left()), (told, used + 3, 0))

    def test_what_is_not_there_is_told_ahead_of_no_bits(self):
        for error, draw in OF_NOTHING:
            for row in ((), (0,), (1, 1), bits_of(7, 50)):
                self.assert_refused(error, draw, row)

    def test_a_refused_deed_leaves_its_object_as_it_was(self):
        bits = Bits((1, 1, 0))
        kept = Kept(bits, 1)
        keeper = Keeper(bits, 2)
        drawer = Drawer(3, 4)
        kept.tell("a")
        kept.tell("b")
        keeper.draw(1)
        drawer.even(2)
        before = (bits.used(), bits.left(), kept.kept(), kept.many(), keeper.room(), drawer.history(), drawer.used())
        for turn in range(2):
            for error, deed in (
                (NoBits, lambda: kept.tell("c")), (NoBits, lambda: keeper.draw(9)), (NoBits, lambda: drawer.even(1000)),
                (NoBits, lambda: drawer.pick((1,) * 100)), (NoBits, lambda: drawer.shuffled(tuple(range(9)))),
                (NoBits, lambda: drawer.choice(20, 10)), (NoPlace, lambda: drawer.choice(3, 4)),
                (NoPlace, lambda: bits.go_back(9)), (NoPlace, lambda: bits.go_back(-1)),
            ):
                self.assert_just(error, deed)
                after = (bits.used(), bits.left(), kept.kept(), kept.many(), keeper.room(), drawer.history(), drawer.used())
                self.assertEqual(after, before)


class TwiceTest(DrawTest):
    def test_everything_asked_twice_with_other_things_between(self):
        stream = bits_of(60, 200)
        asked = list(ASKED) + [refused for error, refused in REFUSED]
        for draw in list(DRAWS.values()) + [nothing for error, nothing in OF_NOTHING]:
            for row in (stream, stream[3:], (1, 1)):
                asked.append(lambda draw=draw, row=row: draw(Bits(row)))
        first = [told_or_refused(one) for one in asked]
        copies = copy.deepcopy(first)
        backwards = [told_or_refused(one) for one in reversed(asked)]
        third = [told_or_refused(one) for one in asked]
        self.assertEqual(backwards[::-1], first)
        self.assertEqual(third, first)
        self.assertEqual(first, copies)

    def test_no_list_is_told(self):
        for one in ASKED[:-3]:
            self.assert_no_list(one())
        for draw in DRAWS.values():
            self.assert_no_list(draw(Bits(bits_of(61, 200))))

    def assert_no_list(self, thing):
        self.assertIn(type(thing), (int, str, bool, tuple, type(None)), thing)
        if isinstance(thing, tuple):
            for part in thing:
                self.assert_no_list(part)

    def test_things_of_any_kind_are_not_changed(self):
        things = [
            [], [[]], ["", [0, None, True]], (["01", "10"], [2, 1]), ["ask", ["is", 0], ["again"]], [[[0, 0]], [0]],
            [(2, 1), (4, 1)], [[2, 1], [4, 1]], ([[0, 1], [1, 0]], [0]), ("ask", ["is", 0], [["again"]]),
        ]
        before = copy.deepcopy(things)
        for thing in things:
            for turn in range(2):
                told = (is_plan(thing), is_machine(thing), is_table((1, 3), thing), are_figures(5, 12, thing))
                self.assertEqual(told, (False, False, False, False))
        self.assertEqual(things, before)

    def test_looking_changes_nothing(self):
        bits = Bits(bits_of(8, 60))
        kept = Kept(bits, 2)
        keeper = Keeper(bits, 3)
        drawer = Drawer(8, 60)
        looked = Bits(bits_of(8, 60))
        looked_kept = Kept(looked, 2)
        looked_keeper = Keeper(looked, 3)
        looked_drawer = Drawer(8, 60)
        for number in range(8):
            for turn in range(3):
                looks = (looked.used(), looked.left(), looked_kept.kept(), looked_kept.many(), looked_keeper.room())
                self.assertEqual(len(looks), 5)
                self.assertEqual(len(looked_drawer.history()), number)
                looked_drawer.used()
            self.assertEqual(looked_kept.tell(number), kept.tell(number))
            self.assertEqual(looked_keeper.draw(3), keeper.draw(3))
            self.assertEqual(looked_drawer.even(5), drawer.even(5))
        self.assertEqual((looked.used(), looked.left()), (bits.used(), bits.left()))
        self.assertEqual((looked_kept.kept(), looked_keeper.room()), (kept.kept(), keeper.room()))
        self.assertEqual((looked_drawer.history(), looked_drawer.used()), (drawer.history(), drawer.used()))

    def test_draws_of_every_kind_from_one_bits_one_behind_the_other(self):
        stream = bits_of(70, 400)
        bits = Bits(stream)
        for name, draw in DRAWS.items():
            used = bits.used()
            alone = Bits(stream[used:])
            with self.subTest(name=name):
                self.assertEqual(draw(bits), draw(alone))
                self.assertEqual(bits.used(), used + alone.used())


if __name__ == "__main__":
    unittest.main()
