"""What the tests share: plans, rows of bits, and what a draw does with them."""

import itertools
import signal
import unittest
from collections import Counter

from bitdraws.bits import Bits
from bitdraws.errors import DrawError, NoBits, NoPlace

MOST_SECONDS = 60
AGAIN = ("again",)


def told(number):
    return ("is", number)


def ask(zero, one):
    return ("ask", zero, one)


def full(many, end):
    plan = end
    for turn in range(many):
        plan = ask(plan, plan)
    return plan


def row_of(text):
    return tuple(int(sign) for sign in text if sign != " ")


def all_rows(long):
    return itertools.product((0, 1), repeat=long)


def begun(ahead, row):
    """Bits of which those ahead are taken."""
    bits = Bits(ahead + row)
    for bit in ahead:
        bits.take()
    return bits


def outcome(draw, row):
    """What is told and how many bits it took, or None if the row is too short."""
    bits = Bits(row)
    try:
        return (draw(bits), bits.used())
    except NoBits:
        return None


def how_often(draw, long):
    """Of all rows so long, how many tell each thing; None for those that are too short."""
    outcomes = [outcome(draw, row) for row in all_rows(long)]
    return Counter(None if told is None else told[0] for told in outcomes)


def end_test(number, frame):
    raise AssertionError("this takes too long")


class DrawTest(unittest.TestCase):
    """A draw is a function of Bits alone."""

    def setUp(self):
        # What never ends has failed, and is not to be waited for.
        signal.signal(signal.SIGALRM, end_test)
        signal.alarm(MOST_SECONDS)
        self.addCleanup(signal.alarm, 0)

    def assert_raises_just(self, error, deed, *handed):
        with self.assertRaises(DrawError) as caught:
            deed(*handed)
        self.assertIs(type(caught.exception), error)

    def assert_nowhere(self, deed, count, *handed):
        """Where there are so many things, there is no place below 0, and none behind the last."""
        for place in (-10 ** 400, -count - 1, -count, -2, -1, count, count + 1, 2 * count + 5, 10 ** 400):
            if place < 0 or place >= count:
                self.assert_raises_just(NoPlace, deed, *handed, place)

    def assert_refused(self, error, draw, row):
        for ahead in ((), (1,), (0, 1, 1)):
            bits = begun(ahead, row)
            for turn in range(3):
                self.assert_raises_just(error, draw, bits)
                self.assertEqual((bits.used(), bits.left()), (len(ahead), len(row)))
            self.assertEqual(tuple(bits.take() for bit in row), row)

    def assert_draws(self, draw, rows):
        """Rows are pairs: bits as a text, and what is told of just these, and of no fewer."""
        for text, told in rows:
            row = row_of(text)
            for ahead in ((), (0, 1)):
                for behind in ((), (0, 1), (1, 1, 1)):
                    bits = begun(ahead, row + behind)
                    self.assertEqual((draw(bits), bits.used() - len(ahead)), (told, len(row)), text)
            for short in range(len(row)):
                self.assert_refused(NoBits, draw, row[:short])

    def assert_each_as_often(self, draw, things, long):
        often = how_often(draw, long)
        often.pop(None, None)
        self.assertEqual(set(often), set(things))
        self.assertEqual(len(set(often.values())), 1, often)
