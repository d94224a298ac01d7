"""Points 4.2 and 4.3, and what 0.2 and 0.3 say of them: plans that ask bits."""

import itertools
import unittest
from fractions import Fraction

from bitdraws.bits import Bits, bits_of
from bitdraws.errors import NoBits, NoShares
from bitdraws.plans import by_plan, deep, is_plan, mean_of, pick, plan_of, shares_of
from tests.drawing import AGAIN, ask, full, row_of, told


def chain(many, side, last):
    """So many asks one behind the other, each with a number on the other side."""
    plan = last
    for turn in range(many):
        plan = ask(plan, told(1)) if side == 0 else ask(told(1), plan)
    return plan


def pair_of(number):
    return (number.numerator, number.denominator)


THIRDS = ask(ask(told(0), told(1)), ask(told(2), AGAIN))
MIXED = ask(told(7), ask(AGAIN, ask(told(7), told(3))))
# The bare again comes last: a draw that does not refuse it would never end.
WITHOUT = (
    ask(AGAIN, AGAIN), ask(ask(AGAIN, AGAIN), AGAIN), ask(AGAIN, ask(AGAIN, AGAIN)),
    full(2, AGAIN), full(5, AGAIN), full(12, AGAIN), AGAIN,
)
SMALL_WEIGHTS = [
    weights for many in (1, 2, 3) for weights in itertools.product(range(7), repeat=many) if sum(weights) > 0
]


def all_plans(asks):
    """All plans with at most so many asks one behind the other, with the numbers 0 and 1."""
    if asks == 0:
        return [told(0), told(1), AGAIN]
    parts = all_plans(asks - 1)
    return [told(0), told(1), AGAIN] + [ask(zero, one) for zero, one in itertools.product(parts, repeat=2)]


def walked(plan, part, row):
    """The number in which the plan ends and how many bits are left, None if the row is too short."""
    if part[0] == "is":
        return (part[1], len(row))
    if part[0] == "again":
        return walked(plan, plan, row)
    return walked(plan, part[1 + row[0]], row[1:]) if row else None


class IsPlanTest(unittest.TestCase):
    def assert_answer(self, answer, thing):
        self.assertIs(is_plan(thing), answer, thing)

    def test_plans(self):
        for plan in (
            told(0), told(1), told(50), told(99), AGAIN, ask(told(0), told(1)), ask(AGAIN, AGAIN),
            ask(told(3), told(3)), THIRDS, MIXED, WITHOUT[1],
        ):
            self.assert_answer(True, plan)

    def test_12_asks_one_behind_the_other_and_13(self):
        for last in (told(0), AGAIN):
            for side in (0, 1):
                for many in range(13):
                    self.assert_answer(True, chain(many, side, last))
                for many in (13, 14, 15):
                    self.assert_answer(False, chain(many, side, last))
            self.assert_answer(True, full(12, last))
            self.assert_answer(False, full(13, last))
            self.assert_answer(True, ask(chain(11, 1, last), chain(11, 0, last)))
            self.assert_answer(False, ask(chain(12, 1, last), told(0)))
            self.assert_answer(False, ask(told(0), chain(12, 0, last)))

    def test_far_beyond_it_still_tells_false(self):
        self.assert_answer(False, chain(600, 0, AGAIN))
        self.assert_answer(False, chain(600, 1, AGAIN))

    def things_that_are_none(self):
        deep_one = told(0)
        for turn in range(15):
            deep_one = [deep_one] if turn % 2 else (deep_one,)
        return [
            None, True, False, 0, 1, 99, "", "is", "again", "ask", "ask01",
            (), [], [()], ((),), ("",), (None,), (0,), (AGAIN,), [AGAIN], ["again"], (["again"],),
            told(100), told(-1), told(10 ** 5000), told(-10 ** 5000), told(True), told(False), told(None),
            told("0"), told(()), told((0,)), told([0]), told(told(0)), told(AGAIN),
            ("is",), ("is", 0, 0), ("is", 0, None), ["is", 0], ("Is", 0), ("is ", 0), ("", 0), (0, "is"), (0, 0),
            ("isn", 0), (None, 0), (True, 0), (("is",), 0), (["is"], 0), ("ask", 0), ("again", 0),
            ("again", "again"), ("again", None), ("again", ()), ("Again",), ("is",), ("ask",), ("agai",),
            ("ask", told(0)), ("ask", told(0), told(1), told(2)), ("ask", told(0), told(1), None),
            ["ask", told(0), told(1)], ("ASK", told(0), told(1)), ("is", told(0), told(1)),
            ("again", told(0), told(1)), (told(0), told(1)), (told(0), "ask", told(1)), ("ask", (told(0), told(1))),
            ("a", "s", "k"), ("ask", "is", 0), (None, AGAIN, AGAIN), (["ask"], AGAIN, AGAIN), deep_one, (deep_one, 0),
        ]

    def test_things_that_are_none(self):
        for thing in self.things_that_are_none():
            self.assert_answer(False, thing)

    def test_at_every_place(self):
        for thing in self.things_that_are_none():
            for right in (told(0), AGAIN, THIRDS):
                self.assert_answer(False, ask(thing, right))
                self.assert_answer(False, ask(right, thing))
                self.assert_answer(False, ask(right, ask(ask(thing, right), right)))
                self.assert_answer(False, ask(ask(right, ask(right, thing)), right))

    def test_the_thing_is_not_changed(self):
        thing = ("ask", ["is", 0], ["again"])
        for turn in range(2):
            self.assert_answer(False, thing)
            self.assertEqual(thing, ("ask", ["is", 0], ["again"]))


class SharesTest(unittest.TestCase):
    def test_by_hand(self):
        for plan, shares in (
            (told(0), ((0, (1, 1)),)),
            (told(99), ((99, (1, 1)),)),
            (ask(told(1), told(0)), ((0, (1, 2)), (1, (1, 2)))),
            (ask(told(5), told(5)), ((5, (1, 1)),)),
            (ask(told(5), AGAIN), ((5, (1, 1)),)),
            (ask(AGAIN, ask(AGAIN, told(4))), ((4, (1, 1)),)),
            (THIRDS, ((0, (1, 3)), (1, (1, 3)), (2, (1, 3)))),
            (MIXED, ((3, (1, 6)), (7, (5, 6)))),
            (ask(told(10), ask(told(9), told(10))), ((9, (1, 4)), (10, (3, 4)))),
            (ask(ask(AGAIN, told(2)), ask(told(0), told(0))), ((0, (2, 3)), (2, (1, 3)))),
            (chain(12, 0, told(0)), ((0, (1, 4096)), (1, (4095, 4096)))),
            (chain(12, 1, AGAIN), ((1, (1, 1)),)),
            (ask(told(2), chain(11, 1, AGAIN)), ((1, (2047, 4095)), (2, (2048, 4095)))),
        ):
            self.assertEqual(shares_of(plan), shares, plan)

    def test_of_all_small_plans_by_rows_of_bits(self):
        for plan in all_plans(2):
            if plan in WITHOUT:
                continue
            ends = []
            for row in itertools.product((0, 1), repeat=2):
                part = plan
                for bit in row:
                    part = part[1 + bit] if part[0] == "ask" else part
                ends.append(part)
            numbers = [end[1] for end in ends if end[0] == "is"]
            shares = tuple((number, pair_of(Fraction(numbers.count(number), len(numbers)))) for number in sorted(set(numbers)))
            self.assertEqual(shares_of(plan), shares, plan)

    def test_no_number_stands_in_it(self):
        for plan in WITHOUT:
            for turn in range(2):
                for ask_of in (shares_of, mean_of):
                    with self.assertRaises(NoShares):
                        ask_of(plan)


class MeanTest(unittest.TestCase):
    def test_by_hand(self):
        for plan, mean in (
            (told(0), (0, 1)),
            (told(99), (0, 1)),
            (ask(told(1), told(0)), (1, 1)),
            (ask(told(5), told(5)), (1, 1)),
            (ask(told(5), AGAIN), (2, 1)),
            # 1/2 + 2 times 2/4, and 3/4 of all anew.
            (ask(AGAIN, ask(AGAIN, told(4))), (6, 1)),
            (THIRDS, (8, 3)),
            # 1/2 + 2/4 + 2 times 3/8, and 1/4 of all anew.
            (MIXED, (7, 3)),
            (ask(told(10), ask(told(9), told(10))), (3, 2)),
            (full(12, told(3)), (12, 1)),
            (chain(12, 0, told(0)), (4095, 2048)),
            (chain(12, 1, AGAIN), (2, 1)),
        ):
            self.assertEqual(mean_of(plan), mean, plan)

    def test_of_all_small_plans_by_rows_of_bits(self):
        for plan in all_plans(2):
            if plan in WITHOUT:
                continue
            taken = 0
            ended = 0
            for row in itertools.product((0, 1), repeat=2):
                part = plan
                for bit in row:
                    if part[0] == "ask":
                        part = part[1 + bit]
                        taken += 1
                ended += part[0] == "is"
            self.assertEqual(mean_of(plan), pair_of(Fraction(taken, ended)), plan)


class ByPlanTest(unittest.TestCase):
    def assert_draws(self, plan, rows):
        for text, number in rows:
            row = row_of(text)
            for behind in ((), (0, 1), (1, 1, 1)):
                bits = Bits(row + behind)
                self.assertEqual((by_plan(bits, plan), bits.used()), (number, len(row)), (plan, text))
            for short in range(len(row)):
                self.assert_refused(NoBits, (0, 1), row[:short], plan)

    def assert_refused(self, error, ahead, row, plan):
        bits = Bits(ahead + row)
        for bit in ahead:
            bits.take()
        for turn in range(3):
            with self.assertRaises(error):
                by_plan(bits, plan)
            self.assertEqual((bits.used(), bits.left()), (len(ahead), len(row)))
        self.assertEqual(tuple(bits.take() for bit in row), row)

    def test_a_number_takes_no_bit(self):
        self.assert_draws(told(0), (("", 0),))
        self.assert_draws(told(99), (("", 99),))

    def test_by_hand(self):
        self.assert_draws(ask(told(4), told(8)), (("0", 4), ("1", 8)))
        self.assert_draws(ask(told(5), AGAIN), (("0", 5), ("10", 5), ("1110", 5)))
        self.assert_draws(THIRDS, (("00", 0), ("01", 1), ("10", 2), ("11 01", 1), ("11 11 10", 2)))
        self.assert_draws(MIXED, (("0", 7), ("110", 7), ("111", 3), ("10 0", 7), ("10 10 111", 3)))
        self.assert_draws(chain(12, 1, told(0)), (("0", 1), ("1" * 11 + "0", 1), ("1" * 12, 0)))
        self.assert_draws(chain(12, 1, AGAIN), (("1" * 12 + "10", 1),))

    def test_no_number_stands_in_it_ahead_of_no_bits(self):
        for plan in WITHOUT:
            for row in ((), (0,), (1, 1, 0), bits_of(1, 200)):
                self.assert_refused(NoShares, (), row, plan)
                self.assert_refused(NoShares, (1, 0), row, plan)

    def test_draws_one_behind_the_other(self):
        bits = Bits(row_of("10 0 111 0"))
        self.assertEqual([by_plan(bits, MIXED) for turn in range(3)], [7, 3, 7])
        self.assertEqual((bits.used(), bits.left()), (7, 0))

    def test_all_small_plans_with_all_rows(self):
        rows = list(itertools.product((0, 1), repeat=5))
        for plan in all_plans(2):
            if plan in WITHOUT:
                continue
            for row in rows:
                due = walked(plan, plan, row)
                bits = Bits(row)
                if due is None:
                    with self.assertRaises(NoBits):
                        by_plan(bits, plan)
                    self.assertEqual(bits.used(), 0)
                else:
                    self.assertEqual((by_plan(bits, plan), bits.left()), due)


class DeepTest(unittest.TestCase):
    def test_by_hand(self):
        for plan, many in (
            (told(0), 0), (AGAIN, 0), (ask(told(0), told(1)), 1), (ask(AGAIN, AGAIN), 1), (THIRDS, 2), (MIXED, 3),
            (ask(THIRDS, told(0)), 3), (ask(told(0), THIRDS), 3), (ask(THIRDS, ask(MIXED, told(0))), 5),
            (full(12, AGAIN), 12), (full(13, told(0)), 13),
        ):
            self.assertEqual(deep(plan), many, plan)
        for many in range(14):
            for side in (0, 1):
                self.assertEqual(deep(chain(many, side, told(0))), many)


class PlanOfTest(unittest.TestCase):
    def test_one_weight(self):
        for weight in (1, 2, 4, 64, 4096):
            self.assertEqual(plan_of((weight,)), told(0))
        # What lacks for a power of two is again.
        self.assertEqual(plan_of((3,)), ask(told(0), ask(told(0), AGAIN)))
        self.assertEqual(plan_of((5,)), ask(told(0), ask(AGAIN, ask(told(0), AGAIN))))

    def test_a_power_of_two_at_one_number(self):
        self.assertEqual(plan_of((0, 1)), told(1))
        self.assertEqual(plan_of((0, 0, 8, 0)), told(2))
        self.assertEqual(plan_of((0,) * 99 + (4096,)), told(99))

    def test_weights_that_come_to_a_power_of_two(self):
        for weights, plan in (
            ((1, 1), ask(told(0), told(1))),
            ((8, 8), ask(told(0), told(1))),
            ((1, 1, 1, 1), ask(ask(told(0), told(1)), ask(told(2), told(3)))),
            ((1, 3), ask(told(1), ask(told(0), told(1)))),
            ((3, 1), ask(told(0), ask(told(0), told(1)))),
            ((3, 0, 5), ask(told(2), ask(told(0), ask(told(0), told(2))))),
            ((1, 2, 1), ask(told(1), ask(told(0), told(2)))),
            # Behind the two ends at depth 2 stand two asks.
            ((1, 1, 2, 1, 1, 2), ask(ask(told(2), told(5)), ask(ask(told(0), told(1)), ask(told(3), told(4))))),
        ):
            self.assertEqual(plan_of(weights), plan, weights)

    def test_others(self):
        for weights, plan in (
            ((1, 2), ask(told(1), ask(told(0), AGAIN))),
            ((1, 1, 1), THIRDS),
            ((2, 1), ask(told(0), ask(told(1), AGAIN))),
            # 3 are again: .011 of 8, as 2 is .01 and 3 is .011.
            ((2, 3), ask(ask(told(0), told(1)), ask(AGAIN, ask(told(1), AGAIN)))),
            ((0, 5, 0), ask(told(1), ask(AGAIN, ask(told(1), AGAIN)))),
            ((1, 2, 3), ask(ask(told(1), told(2)), ask(AGAIN, ask(told(0), told(2))))),
        ):
            self.assertEqual(plan_of(weights), plan, weights)

    def test_at_each_depth_ends_stand_in_order_and_asks_behind_them(self):
        for weights in SMALL_WEIGHTS + [(100, 7, 0, 33), tuple(range(1, 90)), (4095, 1), (2049,)]:
            power = 1
            while power < sum(weights):
                power *= 2
            due = [(weight, told(number)) for number, weight in enumerate(weights)] + [(power - sum(weights), AGAIN)]
            row = [plan_of(weights)]
            place = power
            while row:
                ends = [end for weight, end in due if weight & place]
                self.assertEqual(row[:len(ends)], ends, weights)
                asks = row[len(ends):]
                self.assertEqual([part[0] for part in asks], ["ask"] * len(asks), weights)
                row = [part for one in asks for part in one[1:]]
                place //= 2

    def test_its_shares_are_the_weights(self):
        for weights in SMALL_WEIGHTS + [(100, 7, 0, 33), tuple(range(90)), (1, 4095), (4000, 90, 3)]:
            plan = plan_of(weights)
            self.assertIs(is_plan(plan), True)
            shares = tuple(
                (number, pair_of(Fraction(weight, sum(weights)))) for number, weight in enumerate(weights) if weight > 0
            )
            self.assertEqual(shares_of(plan), shares)

    def test_the_most_weights_and_the_greatest(self):
        for weights in ((40,) * 99 + (136,), (1,) * 99 + (3997,), (41,) * 99 + (0,), (4095,), (0,) * 50 + (1, 2048) + (0,) * 48):
            plan = plan_of(weights)
            self.assertIs(is_plan(plan), True)
            self.assertLessEqual(deep(plan), 12)
            self.assertEqual(
                shares_of(plan),
                tuple((number, pair_of(Fraction(weight, sum(weights)))) for number, weight in enumerate(weights) if weight > 0),
            )

    def test_for_a_power_of_two_it_draws_as_pick_does(self):
        row = bits_of(9, 60)
        for weights in SMALL_WEIGHTS:
            if sum(weights) in (1, 2, 4, 8, 16):
                for skip in range(20):
                    bits = Bits(row[skip:])
                    other = Bits(row[skip:])
                    self.assertEqual(by_plan(bits, plan_of(weights)), pick(other, weights))
                    self.assertEqual(bits.used(), other.used())

    def test_asked_again_the_same_is_told(self):
        weights = (3, 0, 2, 6)
        for ask_of in (plan_of, lambda row: shares_of(plan_of(row)), lambda row: mean_of(plan_of(row))):
            self.assertEqual(ask_of(weights), ask_of(weights))


if __name__ == "__main__":
    unittest.main()
