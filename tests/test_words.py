"""Point 8.1, and what 0.2 and 0.3 say of it: words that a machine takes."""

import itertools
import unittest

from bitdraws.bits import Bits, bits_of
from bitdraws.errors import NoBits, NoPlace, NoShares
from bitdraws.evens import even
from bitdraws.words import count_words, is_machine, is_taken, place_of_word, word, word_at
from tests.drawing import DrawTest

ALL = (((0, 0),), (0,))
NO_WORD = (((0, 0),), ())
NO_WAY = (((None, None),), (0,))
ONLY_A = (((0, None),), (0,))
ONLY_B = (((None, 0),), (0,))
EVEN_B = (((0, 1), (1, 0)), (0,))
NO_BB = (((0, 1), (0, None)), (0, 1))
ENDS_IN_AB = (((1, 0), (1, 2), (1, 0)), (2,))
ONE_A_THREE_B = (((1, None), (None, 2), (None, 3), (None, 4), (None, None)), (4,))
FIVES = (((1, 4), (2, 0), (3, 1), (4, 2), (0, 3)), (0, 2, 3))
SIX = (((1, 5), (2, 0), (3, 1), (4, 2), (5, 3), (0, 4)), (0, 5))
MACHINES = (ALL, NO_WORD, NO_WAY, ONLY_A, ONLY_B, EVEN_B, NO_BB, ENDS_IN_AB, ONE_A_THREE_B, FIVES)


def texts(long):
    return ["".join(letters) for letters in itertools.product("ab", repeat=long)]


def is_due(machine, text):
    states = [0]
    for letter in text:
        states = [machine[0][state]["ab".index(letter)] for state in states]
        states = [state for state in states if state is not None]
    return any(state in machine[1] for state in states)


def words_of(machine, long):
    return [text for text in texts(long) if is_due(machine, text)]


def wording(machine, long):
    return lambda bits: word(bits, machine, long)


class IsMachineTest(unittest.TestCase):
    def assert_answer(self, answer, thing):
        self.assertIs(is_machine(thing), answer, thing)

    def test_machines(self):
        for machine in MACHINES:
            self.assert_answer(True, machine)

    def test_one_to_five_states_and_no_more(self):
        for states in range(9):
            for row in ((0, 0), (None, None), (states - 1, None)):
                for ends in ((), tuple(range(states)), tuple(range(states))[-1:]):
                    right = 1 <= states <= 5
                    self.assert_answer(right, ((row,) * states, ends))
        self.assert_answer(False, SIX)

    def test_every_small_machine(self):
        for ways_on in itertools.product((None, -1, 0, 1, 2), repeat=4):
            rows = (ways_on[:2], ways_on[2:])
            right = all(to in (None, 0, 1) for to in ways_on)
            for ends in ((), (0,), (1,), (0, 1)):
                self.assert_answer(right, (rows, ends))
            for ends in ((1, 0), (0, 0), (1, 1), (0, 1, 1), (0, 0, 1), (2,), (-1,), (0, 2), (-1, 0), (None,)):
                self.assert_answer(False, (rows, ends))

    def deep_things(self):
        thing = ((0, 0),)
        other = 0
        for turn in range(15):
            thing = [thing] if turn % 2 else (thing,)
            other = (other, None) if turn % 2 else [other]
        return [thing, other]

    def test_things_that_are_none(self):
        rows = ((0, 1), (1, None))
        for thing in self.deep_things() + [
            None, True, False, 0, 1, -1, 10 ** 5000, "", "a", "ab", (), [], ((),), [[]], ((), ()), [[], []], ([], ()),
            ("", ""), (None, None), (0, 0), (rows,), rows, (rows, (0,), ()), (rows, (0,), None), ((0,), rows),
            [rows, (0,)], (list(rows), (0,)), (rows, [0]), (rows, []), [list(rows), [0]],
            (rows, 0), (rows, None), (rows, ""), (rows, "0"), (rows, True), (rows, ((0,),)), (rows, ([0],)),
            (0, ()), (None, ()), ("ab", ()), (True, ()), ((0, 1), ()), ((0, 1), (0,)), (((0, 1),), ()), (((0,),), (0,)),
        ]:
            self.assert_answer(False, thing)

    def test_wrong_rows_at_every_place(self):
        right = (0, None)
        for row in self.deep_things() + [
            None, 0, True, "", "ab", "00", (), [], (0,), (None,), (0, 0, 0), (0, None, None), [0, None], [None, None],
            ((0, 0),), (0, (0,)), ([0], 0), (0, []), ((), 0), ("0", 0), (0, "a"), ("", None), (None, ""),
            (True, 0), (0, True), (False, 0), (0, False), (False, False), (None, True), (False, None),
            (-1, 0), (0, -1), (10 ** 5000, 0), (0, -10 ** 5000),
        ]:
            for states in range(1, 6):
                for place in range(states):
                    rows = (right,) * place + (row,) + (right,) * (states - 1 - place)
                    for ends in ((), (0,)):
                        self.assert_answer(False, (rows, ends))
        for states in range(1, 6):
            for place in range(states):
                for row in ((states, 0), (0, states), (states, None), (None, states + 1)):
                    rows = (right,) * place + (row,) + (right,) * (states - 1 - place)
                    self.assert_answer(False, (rows, (0,)))

    def test_wrong_ends(self):
        for states in range(1, 6):
            rows = ((0, states - 1),) * states
            for ends in self.deep_things() + [
                None, 0, True, "", "0", [], [0], (None,), (True,), (False,), (0, True), ("0",), ("",), ((),), ((0,),),
                ([0],), (-1,), (-1, 0), (states,), (0, states), (0, 0), (states - 1, states - 1), (0, None), (None, 0),
                (10 ** 5000,), (-10 ** 5000,), tuple(range(states + 1)), tuple(range(states)) + (0,), (0, 0) * states,
            ]:
                self.assert_answer(False, (rows, ends))
            falling = tuple(range(states))[::-1]
            self.assert_answer(states == 1, (rows, falling))
        self.assert_answer(False, (((0, 0),) * 3, (0, 2, 1)))
        self.assert_answer(False, (((0, 0),) * 3, (1, 0, 2)))
        self.assert_answer(True, (((0, 0),) * 3, (0, 2)))

    def test_the_thing_is_not_changed(self):
        thing = [[[0, 0]], [0]]
        for turn in range(2):
            self.assert_answer(False, thing)
            self.assertEqual(thing, [[[0, 0]], [0]])


class IsTakenTest(unittest.TestCase):
    def test_the_empty_word(self):
        for machine in MACHINES:
            self.assertIs(is_taken(machine, ""), 0 in machine[1])

    def test_by_hand(self):
        for machine, right, wrong in (
            (ALL, "a b ab bbab aaaaaaa", ""),
            (NO_WORD, "", "a b ab ba"),
            (NO_WAY, "", "a b ab ba aa"),
            (ONLY_A, "a aa aaaaa", "b ab ba aab aba"),
            (ONLY_B, "b bb bbbb", "a ab ba bba"),
            (EVEN_B, "a bb abab bab bbbb", "b ab ba bbb abbb"),
            (NO_BB, "a b ab ba bab aba babab", "bb abb bba abba babb"),
            (ENDS_IN_AB, "ab aab bab abab bbaab", "a b ba aa bb aba abb"),
            (ONE_A_THREE_B, "abbb", "a b ab abb abbbb abbba babb bbbb"),
            (FIVES, "aa aaa ab abaa bb bbb", "a b aaaa aba bbbb"),
        ):
            for text in right.split():
                self.assertIs(is_taken(machine, text), True, (machine, text))
            for text in wrong.split():
                self.assertIs(is_taken(machine, text), False, (machine, text))

    def test_all_words_of_up_to_six_letters(self):
        for machine in MACHINES + (SIX,):
            for long in range(7):
                for text in texts(long):
                    self.assertIs(is_taken(machine, text), is_due(machine, text), (machine, text))

    def test_other_letters_lead_nowhere(self):
        for text in ("c", "A", "ac", "ca", " ", "a "):
            self.assertIs(is_taken(ALL, text), False)


class PlaceTest(DrawTest):
    def test_count_by_hand(self):
        for machine, counts in (
            (ALL, [1, 2, 4, 8, 16, 32, 64]),
            (NO_WORD, [0, 0, 0, 0, 0, 0, 0]),
            (NO_WAY, [1, 0, 0, 0, 0, 0, 0]),
            (ONLY_A, [1, 1, 1, 1, 1, 1, 1]),
            (EVEN_B, [1, 1, 2, 4, 8, 16, 32]),
            (NO_BB, [1, 2, 3, 5, 8, 13, 21]),
            (ENDS_IN_AB, [0, 0, 1, 2, 4, 8, 16]),
            (ONE_A_THREE_B, [0, 0, 0, 0, 1, 0, 0]),
        ):
            self.assertEqual([count_words(machine, long) for long in range(7)], counts, machine)
            self.assertIs(type(count_words(machine, 0)), int)

    def test_far_lengths(self):
        self.assertEqual(count_words(ALL, 1000), 2 ** 1000)
        self.assertEqual(count_words(EVEN_B, 1000), 2 ** 999)
        one, other = 1, 2
        for turn in range(400):
            one, other = other, one + other
        self.assertEqual(count_words(NO_BB, 400), one)

    def test_word_at_by_hand(self):
        for machine, long, words in (
            (ALL, 0, [""]),
            (ALL, 2, ["aa", "ab", "ba", "bb"]),
            (ONLY_B, 3, ["bbb"]),
            (EVEN_B, 3, ["aaa", "abb", "bab", "bba"]),
            (NO_BB, 3, ["aaa", "aab", "aba", "baa", "bab"]),
            (ENDS_IN_AB, 4, ["aaab", "abab", "baab", "bbab"]),
            (ONE_A_THREE_B, 4, ["abbb"]),
        ):
            self.assertEqual([word_at(machine, long, place) for place in range(len(words))], words)
            self.assertEqual([place_of_word(machine, text) for text in words], list(range(len(words))))

    def test_all_words_of_up_to_seven_letters_as_they_rise(self):
        for machine in MACHINES + (SIX,):
            for long in range(8):
                words = words_of(machine, long)
                self.assertEqual(count_words(machine, long), len(words), (machine, long))
                self.assertEqual([word_at(machine, long, place) for place in range(len(words))], words)
                self.assertEqual([place_of_word(machine, text) for text in words], list(range(len(words))))
                self.assert_nowhere(word_at, len(words), machine, long)

    def test_greater_ones_lead_back(self):
        for machine, long in ((ALL, 200), (EVEN_B, 100), (NO_BB, 300), (ENDS_IN_AB, 64), (FIVES, 150)):
            count = count_words(machine, long)
            told = [word_at(machine, long, (count - 1) * part // 40) for part in range(41)]
            self.assertEqual(told, sorted(told))
            self.assertEqual(len(set(told)), 41)
            for part, text in enumerate(told):
                self.assertEqual((len(text), is_taken(machine, text)), (long, True))
                self.assertEqual(place_of_word(machine, text), (count - 1) * part // 40)
            self.assert_nowhere(word_at, count, machine, long)

    def test_no_place_of_words_that_are_not_taken(self):
        for machine in MACHINES:
            for long in range(6):
                for text in texts(long):
                    if not is_due(machine, text):
                        self.assert_raises_just(NoPlace, place_of_word, machine, text)

    def test_no_word_is_shorter_than_the_empty_one(self):
        self.assertEqual(count_words(ALL, -1), 0)
        self.assert_nowhere(word_at, 0, ALL, -1)
        self.assert_refused(NoShares, wording(ALL, -1), (0, 1))


class WordTest(DrawTest):
    def test_one_word_alone_takes_no_bit(self):
        self.assert_draws(wording(ALL, 0), (("", ""),))
        self.assert_draws(wording(NO_WAY, 0), (("", ""),))
        self.assert_draws(wording(ONLY_A, 4), (("", "aaaa"),))
        self.assert_draws(wording(ONE_A_THREE_B, 4), (("", "abbb"),))

    def test_by_hand(self):
        self.assert_draws(wording(ALL, 1), (("0", "a"), ("1", "b")))
        self.assert_draws(wording(EVEN_B, 3), (("00", "aaa"), ("01", "abb"), ("10", "bab"), ("11", "bba")))
        self.assert_draws(wording(NO_BB, 3), (
            ("000", "aaa"), ("001", "aab"), ("010", "aba"), ("011", "baa"), ("100", "bab"),
            ("101 1", "aab"), ("111 0", "bab"), ("111 1 010", "aba"),
        ))

    def test_at_the_place_of_one_even_number(self):
        stream = bits_of(16, 300)
        for machine, long in ((ALL, 30), (NO_BB, 40), (ENDS_IN_AB, 12), (FIVES, 25)):
            for skip in range(15):
                bits = Bits(stream[skip:])
                other = Bits(stream[skip:])
                due = word_at(machine, long, even(other, count_words(machine, long)))
                self.assertEqual(word(bits, machine, long), due)
                self.assertEqual(bits.used(), other.used())

    def test_each_word_is_told_by_as_many_rows(self):
        for machine, long in ((ALL, 2), (EVEN_B, 3), (NO_BB, 3), (NO_BB, 4), (ENDS_IN_AB, 4), (FIVES, 4)):
            for bits_long in (4, 7, 9):
                self.assert_each_as_often(wording(machine, long), words_of(machine, long), bits_long)

    def test_no_word_is_told_ahead_of_no_bits(self):
        for machine, long in (
            (NO_WORD, 0), (NO_WORD, 3), (NO_WAY, 1), (NO_WAY, 5), (ENDS_IN_AB, 0), (ENDS_IN_AB, 1), (ONE_A_THREE_B, 3),
            (ONE_A_THREE_B, 5),
        ):
            for row in ((), (0,), (1, 1, 0), bits_of(1, 100)):
                self.assert_refused(NoShares, wording(machine, long), row)

    def test_too_few_bits(self):
        for machine, long, row in ((ALL, 3, (0, 1)), (NO_BB, 3, (1, 1, 1, 1, 1)), (NO_BB, 200, bits_of(2, 100))):
            self.assert_refused(NoBits, wording(machine, long), row)


if __name__ == "__main__":
    unittest.main()
