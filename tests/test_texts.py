"""Point 10.2, and what 0.2 and 0.3 say of it: plans as texts."""

import itertools
import re
import unittest

from bitdraws.errors import NoText
from bitdraws.plans import deep, is_plan, plan_of
from bitdraws.texts import read, written
from tests.drawing import AGAIN, DrawTest, ask, full, told

# All signs that a text may have.
SIGNS = "".join(chr(number) for number in range(32, 127) if chr(number) != "%")


def chain(many, side, last):
    """So many asks one behind the other."""
    plan = last
    for turn in range(many):
        plan = ask(plan, told(turn)) if side == 0 else ask(told(turn), plan)
    return plan


def agains(many):
    """So many asks, each to the left of again."""
    plan = AGAIN
    for turn in range(many):
        plan = ask(plan, AGAIN)
    return plan


BY_HAND = (
    (told(0), "0."),
    (told(7), "7."),
    (told(10), "10."),
    (told(99), "99."),
    (AGAIN, "*"),
    (ask(AGAIN, AGAIN), "?**"),
    (ask(told(0), told(1)), "?0.1."),
    (ask(told(12), AGAIN), "?12.*"),
    (ask(AGAIN, told(90)), "?*90."),
    (ask(told(1), ask(told(0), AGAIN)), "?1.?0.*"),
    (ask(ask(told(1), told(0)), AGAIN), "??1.0.*"),
    (ask(ask(told(0), told(1)), ask(told(2), AGAIN)), "??0.1.?2.*"),
    (ask(told(7), ask(AGAIN, ask(told(7), told(33)))), "?7.?*?7.33."),
)


def is_due(text):
    """Whether a text is a plan's, by its parts one by one and how many are lacking behind each."""
    parts = re.findall(r"\?|\*|(?:0|[1-9][0-9]?)\.", text)
    if "".join(parts) != text:
        return False
    # For each part that is lacking: how many asks stand ahead of it.
    lacking = [0]
    for part in parts:
        if not lacking:
            return False
        asks = lacking.pop()
        if part == "?":
            if asks == 12:
                return False
            lacking += [asks + 1, asks + 1]
    return not lacking


def small_plans(asks):
    if asks == 0:
        return [told(0), told(42), AGAIN]
    parts = small_plans(asks - 1)
    return [told(0), told(42), AGAIN] + [ask(zero, one) for zero, one in itertools.product(parts, repeat=2)]


class TextTest(DrawTest):
    def assert_read(self, text, plan):
        for turn in range(2):
            self.assertEqual(read(text), plan, text)
            self.assertIs(is_plan(read(text)), True)

    def assert_no_text(self, text):
        for turn in range(2):
            self.assert_raises_just(NoText, read, text)

    def assert_as_due(self, text):
        if is_due(text):
            self.assertEqual(written(read(text)), text)
        else:
            self.assert_raises_just(NoText, read, text)

    def test_by_hand(self):
        for plan, text in BY_HAND:
            for turn in range(2):
                self.assertEqual(written(plan), text)
            self.assertIs(type(written(plan)), str)
            self.assert_read(text, plan)
            self.assertTrue(is_due(text))

    def test_all_numbers(self):
        for number in range(100):
            self.assertEqual(written(told(number)), str(number) + ".")
            self.assert_read(str(number) + ".", told(number))
            self.assert_read("?" + str(number) + "." + str(99 - number) + ".", ask(told(number), told(99 - number)))
            self.assertIs(type(read(str(number) + ".")[1]), int)

    def test_small_plans_and_those_of_weights(self):
        weights = ((1,), (3,), (1, 2), (100, 7, 0, 33), (1,) * 100, (4095, 1), (1, 4094), tuple(range(90)))
        for plan in small_plans(2) + [plan_of(row) for row in weights]:
            self.assertEqual(read(written(plan)), plan)
            self.assertTrue(is_due(written(plan)))

    def test_unlike_plans_have_unlike_texts(self):
        plans = small_plans(2)
        self.assertEqual(len({written(plan) for plan in plans}), len(plans))

    def test_the_empty_text(self):
        self.assert_no_text("")

    def test_noughts_ahead_of_a_number(self):
        for text in ("00.", "01.", "07.", "000.", "010.", "001.", "099.", "?00.1.", "?0.01.", "?*?01.*", "??05.*1."):
            self.assert_no_text(text)

    def test_numbers_above_99(self):
        for text in ("100.", "101.", "199.", "990.", "999.", "1000.", "?100.*", "?*100.", "?0.123.", "9" * 6000 + "."):
            self.assert_no_text(text)

    def test_numbers_without_a_point_and_points_without_a_number(self):
        for text in ("0", "5", "99", ".", "..", "?", "?0.", "?*", "?0.1", "?.0.", "?0..", "0..", ".0", "5,", "?0.*.", "*."):
            self.assert_no_text(text)

    def test_other_signs(self):
        for text in (
            " ", " 0.", "0. ", "0 .", "+1.", "-1.", "-0.", "1_0.", "1e1.", "0x1.", "a.", "is 0.", "again", "? 0.1.", "?0. 1.",
            "?0.1. ", " *", "* ", "!**", "/**", "(0.)", "1.5.", "?0.1.5", "1:", "\u0661.", "\u00b2.", "0.\n", "\n0.",
        ):
            self.assert_no_text(text)

    def test_two_texts_one_behind_the_other(self):
        texts = [text for plan, text in BY_HAND]
        for one, other in itertools.product(texts, repeat=2):
            # A number ahead of another one with its point is no number.
            self.assert_no_text(one + other)
            self.assert_no_text(one + " " + other)

    def test_all_short_texts(self):
        read_ones = 0
        for long in range(6):
            for signs in itertools.product("?*.019", repeat=long):
                text = "".join(signs)
                self.assert_as_due(text)
                read_ones += is_due(text)
        # By hand: *; N. for 3 numbers; NN. for 6; then asks of two such ones.
        self.assertEqual(read_ones, 1 + 3 + 6 + 1 + 6 + (2 * 6 + 9) + 1 * 2)

    def test_a_sign_too_few_or_too_many_at_every_place(self):
        for plan, text in BY_HAND + ((full(3, told(10)), written(full(3, told(10)))),):
            for place in range(len(text)):
                self.assert_as_due(text[:place] + text[place + 1:])
            for place in range(len(text) + 1):
                for sign in SIGNS:
                    self.assert_as_due(text[:place] + sign + text[place:])
            for place in range(len(text)):
                for sign in SIGNS:
                    self.assert_as_due(text[:place] + sign + text[place + 1:])

    def test_12_asks_one_behind_the_other_and_more(self):
        for last in (told(5), AGAIN):
            for side in (0, 1):
                for many in range(13):
                    plan = chain(many, side, last)
                    self.assert_read(written(plan), plan)
                for many in (13, 14, 20):
                    self.assert_no_text(written(chain(many, side, last)))
            plan = full(12, last)
            self.assertEqual(deep(read(written(plan))), 12)
            self.assertEqual(read(written(plan)), plan)
            self.assert_no_text("?" + written(plan) + "*")
            self.assert_no_text("?*" + written(plan))
        self.assertEqual(written(chain(12, 0, AGAIN)), "?" * 12 + "*0.1.2.3.4.5.6.7.8.9.10.11.")
        self.assert_read("?" * 12 + "*" * 13, agains(12))
        self.assert_no_text("?" * 13 + "*" * 14)
        self.assert_no_text("?*" * 13 + "*")
        self.assert_no_text("?" * 13)
        self.assert_no_text("?" * 12)
        self.assert_no_text("?" * 100000)
        self.assert_no_text("?*" * 100000)

    def test_beyond_12_it_is_written_all_the_same(self):
        self.assertEqual(written(agains(13)), "?" * 13 + "*" * 14)


if __name__ == "__main__":
    unittest.main()
