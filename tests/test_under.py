"""Point 7.3, and what 0.2 and 0.3 say of it: orders of what stands above one another."""

import itertools
import math
import unittest

from bitdraws.bits import Bits, bits_of
from bitdraws.errors import NoBits
from bitdraws.plans import pick
from bitdraws.shapes import count_orders, order_under
from tests.drawing import DrawTest, how_often

SMALL = [
    above for many in range(7) for above in itertools.product(*[(None,) + tuple(range(number)) for number in range(many)])
]


def is_under(order, above):
    return all(upper is None or order.index(upper) < order.index(number) for number, upper in enumerate(above))


def orders_of(above):
    return [order for order in itertools.permutations(range(len(above))) if is_under(order, above)]


def how_many_under(above, number):
    """How many stand under it, or under such, it too."""
    return 1 + sum(how_many_under(above, lower) for lower, upper in enumerate(above) if upper == number)


def ordering(above):
    return lambda bits: order_under(bits, above)


class CountTest(unittest.TestCase):
    def test_by_hand(self):
        for above, count in (
            ((), 1),
            ((None,), 1),
            ((None, None), 2),
            ((None, 0), 1),
            ((None, 0, 0), 2),
            ((None, 0, 1), 1),
            ((None, None, 0), 3),
            ((None, None, 1), 3),
            ((None, 0, 0, 1), 3),
            ((None, 0, 1, 2), 1),
            ((None, None, 0, 1), 6),
            ((None, 0, None, 0), 8),
            ((None,) * 5, 120),
            ((None, 0, 0, 1, 1, 2, 2), 80),
            ((None,) * 30, math.factorial(30)),
            ((None,) + (0,) * 30, math.factorial(30)),
            ((None,) + tuple(range(400)), 1),
        ):
            self.assertEqual(count_orders(above), count, above)
            self.assertIs(type(count_orders(above)), int)

    def test_by_all_orders_of_up_to_six(self):
        orders = {many: list(itertools.permutations(range(many))) for many in range(7)}
        for above in SMALL:
            # Where each number stands in the order: all places are as well those of an order.
            pairs = [(upper, number) for number, upper in enumerate(above) if upper is not None]
            count = sum(all(places[one] < places[other] for one, other in pairs) for places in orders[len(above)])
            self.assertEqual(count_orders(above), count, above)


class OrderUnderTest(DrawTest):
    def test_where_there_is_one_order_no_bit_is_taken(self):
        for above in ((), (None,), (None, 0), (None, 0, 1), (None,) + tuple(range(50))):
            self.assert_draws(ordering(above), (("", tuple(range(len(above)))),))

    def test_by_hand(self):
        self.assert_draws(ordering((None, None)), (("0", (0, 1)), ("1", (1, 0))))
        self.assert_draws(ordering((None, 0, 0)), (("0", (0, 1, 2)), ("1", (0, 2, 1))))
        self.assert_draws(ordering((None, None, None)), (
            ("00 0", (0, 1, 2)), ("00 1", (0, 2, 1)), ("01 0", (1, 0, 2)), ("10 1", (2, 1, 0)), ("11 01 1", (1, 2, 0)),
        ))
        # 2/3 is .1010.., 1/3 is .0101..
        self.assert_draws(ordering((None, None, 0)), (
            ("0 0", (0, 1, 2)), ("0 1", (0, 2, 1)), ("10", (1, 0, 2)), ("110 1", (0, 2, 1)), ("1110", (1, 0, 2)),
        ))
        self.assert_draws(ordering((None, None, 1)), (
            ("0 0", (1, 0, 2)), ("0 1", (1, 2, 0)), ("10", (0, 1, 2)), ("110 0", (1, 0, 2)),
        ))

    def test_those_that_may_come_rise(self):
        # 3/4 and 1/4, then behind 0 the three 1, 2, 3.
        self.assert_draws(ordering((None, 0, None, 0)), (
            ("0 00 0", (0, 1, 2, 3)), ("0 01 1", (0, 2, 3, 1)), ("10 10 0", (0, 3, 1, 2)), ("11 0", (2, 0, 1, 3)),
        ))

    def test_those_under_such_count_too(self):
        # 3/4 and 1/4, then 2/3 and 1/3, then halves.
        self.assert_draws(ordering((None, 0, 1, None)), (
            ("11", (3, 0, 1, 2)), ("10 0 1", (0, 1, 3, 2)), ("0 10", (0, 3, 1, 2)), ("0 0 0", (0, 1, 2, 3)),
        ))

    def test_step_by_step_by_picks(self):
        stream = bits_of(15, 500)
        for above in SMALL[-720::7] + [(None, 0, 0, 1, 1, 2, 2, None, 7, 3)]:
            bits = Bits(stream)
            other = Bits(stream)
            order = []
            while len(order) < len(above):
                coming = [
                    number for number, upper in enumerate(above)
                    if number not in order and (upper is None or upper in order)
                ]
                weights = tuple(how_many_under(above, number) for number in coming)
                order.append(coming[pick(other, weights)])
            self.assertEqual(order_under(bits, above), tuple(order), above)
            self.assertEqual(bits.used(), other.used())

    def test_each_order_is_as_likely(self):
        for above in ((None, None, 0), (None, 0, 0, 1), (None, None, 0, 1), (None, 0, None, 0), (None, None, 1, 1)):
            long = 12
            often = how_often(ordering(above), long)
            refused = often.pop(None)
            orders = orders_of(above)
            self.assertEqual(set(often), set(orders))
            # What is refused has its share of each order still to come.
            for order in orders:
                self.assertLessEqual(often[order] * len(orders), 2 ** long)
                self.assertGreaterEqual((often[order] + refused) * len(orders), 2 ** long)
            self.assertLess(refused, 2 ** long // 50)

    def test_too_few_bits_behind_some(self):
        for above, row in (
            ((None, None), ()), ((None, None, 0), (0,)), ((None, None, 0), (1, 1, 1)), ((None, 0, None, 0), (0, 0, 1)),
            ((None,) * 100, bits_of(3, 200)),
        ):
            self.assert_refused(NoBits, ordering(above), row)

    def test_asked_again_the_same_is_told(self):
        above = (None, None, 0, 1, 0)
        for turn in range(2):
            told = order_under(Bits(bits_of(1, 60)), above)
            self.assertEqual(told, order_under(Bits(bits_of(1, 60)), above))
            self.assertTrue(is_under(told, above))
            self.assertEqual((type(told), type(told[0])), (tuple, int))
        self.assertEqual(above, (None, None, 0, 1, 0))


if __name__ == "__main__":
    unittest.main()
