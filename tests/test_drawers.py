"""Point 10.1, and what 0.2 and 0.3 say of it: a drawer, that draws from a seed and goes back."""

import unittest

from bitdraws.bits import Bits, bits_of
from bitdraws.drawers import Drawer
from bitdraws.errors import DrawError, NoBits, NoPlace, NoStep
from bitdraws.evens import even
from bitdraws.orders import choice, shuffled
from bitdraws.plans import pick
from tests.drawing import DrawTest

# The deeds of a drawer by name, with what is handed in.
DEEDS = (
    ("even", (3,)), ("pick", ((1, 3),)), ("shuffled", (("a", "b", "c"),)), ("choice", (5, 2)), ("even", (1,)),
    ("even", (1000,)), ("pick", ((0, 7),)), ("pick", ((2, 2, 1),)), ("shuffled", ((),)), ("shuffled", ((4, 4),)),
    ("choice", (6, 6)), ("choice", (0, 0)), ("choice", (30, 15)), ("shuffled", (tuple(range(10)),)), ("even", (2,)),
)
DRAWS = {"even": even, "pick": pick, "shuffled": shuffled, "choice": choice}


def done(drawer, deed):
    return getattr(drawer, deed[0])(*deed[1])


class DrawerTest(DrawTest):
    def assert_stands(self, drawer, history, used):
        # Twice, for being asked changes nothing.
        for turn in range(2):
            self.assertEqual((drawer.history(), drawer.used()), (history, used))
            self.assertEqual((type(drawer.history()), type(drawer.used())), (tuple, int))

    def test_at_first_nothing_was_drawn(self):
        for many in (0, 1, 100):
            self.assert_stands(Drawer(5, many), (), 0)

    def test_by_hand(self):
        self.assertEqual(bits_of(0, 9), (0, 0, 1, 1, 0, 1, 0, 1, 1))
        drawer = Drawer(0, 9)
        self.assertEqual(drawer.even(3), 0)
        self.assert_stands(drawer, (0,), 2)
        self.assertEqual(drawer.even(4), 3)
        self.assert_stands(drawer, (0, 3), 4)
        self.assertEqual(drawer.pick((1, 3)), 1)
        self.assert_stands(drawer, (0, 3, 1), 5)
        self.assertEqual(drawer.choice(2, 1), (1,))
        self.assert_stands(drawer, (0, 3, 1, (1,)), 6)
        self.assertEqual(drawer.shuffled(("x", "y", "z")), ("x", "z", "y"))
        self.assert_stands(drawer, (0, 3, 1, (1,), ("x", "z", "y")), 9)
        self.assertEqual(drawer.even(1), 0)
        self.assert_stands(drawer, (0, 3, 1, (1,), ("x", "z", "y"), 0), 9)
        for told, history, used in (
            (0, (0, 3, 1, (1,), ("x", "z", "y")), 9), (("x", "z", "y"), (0, 3, 1, (1,)), 6), ((1,), (0, 3, 1), 5),
            (1, (0, 3), 4), (3, (0,), 2), (0, (), 0),
        ):
            self.assertEqual(drawer.back(), told)
            self.assert_stands(drawer, history, used)
        self.assert_raises_just(NoStep, drawer.back)

    def test_each_deed_tells_what_the_same_draw_tells(self):
        for seed in (0, 1, 77, 4294967295):
            bits = Bits(bits_of(seed, 500))
            drawer = Drawer(seed, 500)
            history = ()
            for deed in DEEDS * 2:
                due = DRAWS[deed[0]](bits, *deed[1])
                self.assertEqual(done(drawer, deed), due, deed)
                history += (due,)
                self.assert_stands(drawer, history, bits.used())

    def test_each_deed_alone(self):
        for deed in DEEDS:
            for seed in range(20):
                bits = Bits(bits_of(seed, 60))
                drawer = Drawer(seed, 60)
                due = DRAWS[deed[0]](bits, *deed[1])
                self.assertEqual(done(drawer, deed), due)
                self.assert_stands(drawer, (due,), bits.used())
                self.assertEqual(drawer.back(), due)
                self.assert_stands(drawer, (), 0)

    def test_with_no_bits(self):
        drawer = Drawer(3, 0)
        history = ()
        for deed, told in (
            (("even", (1,)), 0), (("pick", ((5,),)), 0), (("pick", ((0, 3),)), 1), (("shuffled", ((),)), ()),
            (("shuffled", (("a",),)), ("a",)), (("choice", (3, 3)), (0, 1, 2)), (("choice", (3, 0)), ()),
        ):
            for refused in (("even", (2,)), ("pick", ((1, 1),)), ("shuffled", ((1, 2),)), ("choice", (3, 1))):
                self.assert_raises_just(NoBits, done, drawer, refused)
                self.assert_stands(drawer, history, 0)
            self.assertEqual(done(drawer, deed), told)
            history += (told,)
            self.assert_stands(drawer, history, 0)

    def test_just_so_many_bits(self):
        for many in range(8):
            drawer = Drawer(9, many)
            self.assertEqual(tuple(drawer.even(2) for turn in range(many)), bits_of(9, many))
            self.assert_raises_just(NoBits, drawer.even, 2)
            self.assert_stands(drawer, bits_of(9, many), many)

    def test_what_is_refused_leaves_all_as_it_was(self):
        refused = (
            (NoBits, ("even", (10 ** 9,))), (NoBits, ("pick", ((1,) * 5000,))), (NoBits, ("shuffled", (tuple(range(20)),))),
            (NoBits, ("choice", (100, 50))), (NoPlace, ("choice", (3, 4))), (NoPlace, ("choice", (3, -1))),
        )
        for ahead in range(5):
            drawer = Drawer(40, 12)
            for turn in range(ahead):
                drawer.even(4)
            history, used = drawer.history(), drawer.used()
            self.assertEqual((len(history), used), (ahead, 2 * ahead))
            for error, deed in refused * 2:
                self.assert_raises_just(error, done, drawer, deed)
                self.assert_stands(drawer, history, used)
            self.assertEqual(drawer.even(4), 2 * bits_of(40, 12)[used] + bits_of(40, 12)[used + 1])
            self.assertEqual(drawer.back(), drawer.even(4))

    def test_no_place_comes_ahead_of_no_bits(self):
        for many in (0, 1, 50):
            for total, some in ((0, 1), (0, -1), (2, 3), (5, -2), (5, 50)):
                drawer = Drawer(1, many)
                self.assert_raises_just(NoPlace, drawer.choice, total, some)
                self.assert_stands(drawer, (), 0)

    def test_no_step(self):
        drawer = Drawer(6, 10)
        for turn in range(3):
            self.assert_raises_just(NoStep, drawer.back)
            self.assert_stands(drawer, (), 0)
        told = drawer.even(8)
        self.assertEqual(drawer.back(), told)
        self.assert_raises_just(NoStep, drawer.back)
        self.assert_stands(drawer, (), 0)
        self.assertEqual(drawer.even(8), told)
        self.assert_stands(drawer, (told,), 3)
        # What was refused is no step.
        drawer = Drawer(6, 0)
        with self.assertRaises(DrawError):
            drawer.even(2)
        self.assert_raises_just(NoStep, drawer.back)

    def test_back_step_by_step_and_on_again(self):
        drawer = Drawer(12, 500)
        stands = [(drawer.history(), drawer.used())]
        for deed in DEEDS:
            done(drawer, deed)
            stands.append((drawer.history(), drawer.used()))
        for steps in range(len(DEEDS) + 1):
            for step in range(steps):
                last = drawer.history()[-1]
                self.assertEqual(drawer.back(), last)
                self.assert_stands(drawer, *stands[len(DEEDS) - 1 - step])
            # Drawn again, the same is told.
            for number in range(len(DEEDS) - steps, len(DEEDS)):
                self.assertEqual(done(drawer, DEEDS[number]), stands[-1][0][number])
                self.assert_stands(drawer, *stands[number + 1])

    def test_back_and_on_by_another_way(self):
        drawer = Drawer(0, 9)
        drawer.even(4)
        drawer.even(8)
        self.assertEqual(drawer.back(), 6)
        self.assertEqual(drawer.even(2), 1)
        self.assertEqual(drawer.even(2), 1)
        self.assert_stands(drawer, (0, 1, 1), 4)

    def test_what_was_told_first_does_not_change_later(self):
        drawer = Drawer(2, 50)
        drawer.even(5)
        before = drawer.history()
        copy = tuple(before)
        drawer.even(5)
        self.assertEqual((before, len(before)), (copy, 1))
        drawer.back()
        drawer.back()
        self.assertEqual(before, copy)

    def test_two_of_one_seed_do_not_touch_one_another(self):
        one = Drawer(8, 200)
        other = Drawer(8, 200)
        told = [done(one, deed) for deed in DEEDS]
        self.assert_stands(other, (), 0)
        self.assertEqual([done(other, deed) for deed in DEEDS], told)
        used = one.used()
        other.back()
        other.back()
        self.assert_stands(one, tuple(told), used)
        self.assertEqual(len(other.history()), len(told) - 2)


if __name__ == "__main__":
    unittest.main()
