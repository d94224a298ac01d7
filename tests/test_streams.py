"""Points 1.2 and 0.2 (h), and what 0.3 says of them: streams of bits that come from seeds."""

import itertools
import unittest

from bitdraws.bits import bits_of, next_state, parted, split, state_after, state_before, woven

LEAST = 0
GREATEST = 4294967295
ROUND = 4294967296
SEEDS = (0, 1, 2, 12345, 2147483647, 2147483648, 2147483649, 3735928559, 4294967294, 4294967295)
# The first states behind seed 0, as tables of this well-known generator tell them.
FROM_0 = (
    0x3C6EF35F, 0x47502932, 0xD1CCF6E9, 0xAAF95334, 0x6252E503, 0x9F2EC686,
    0x57FE6C2D, 0xA3D95FA8, 0x81FDBEE7, 0x94F0AF1A, 0xCBF633B1,
)


def rows_up_to(many):
    return [row for long in range(many + 1) for row in itertools.product((0, 1), repeat=long)]


def stepped(state, many):
    for step in range(many):
        state = (1664525 * state + 1013904223) % 4294967296
    return state


class StatesTest(unittest.TestCase):
    def test_next_state_by_hand(self):
        self.assertEqual(next_state(LEAST), 1013904223)
        self.assertEqual(next_state(1), 1015568748)
        self.assertEqual(next_state(GREATEST), 1012239698)
        self.assertIs(type(next_state(LEAST)), int)

    def test_next_state_as_tables_tell(self):
        state = 0
        for wanted in FROM_0:
            state = next_state(state)
            self.assertEqual(state, wanted)

    def test_states_stay_within_their_bounds(self):
        for seed in SEEDS:
            for state in (next_state(seed), state_before(seed), state_after(seed, 999), split(seed, 999)):
                self.assertIn(state, range(ROUND))

    def test_state_before_by_hand(self):
        self.assertEqual(state_before(1013904223), LEAST)
        self.assertEqual(state_before(1012239698), GREATEST)
        self.assertEqual(state_before(0x47502932), 0x3C6EF35F)

    def test_state_before_undoes_next_state_both_ways(self):
        for seed in SEEDS + FROM_0:
            self.assertEqual(state_before(next_state(seed)), seed)
            self.assertEqual(next_state(state_before(seed)), seed)

    def test_steps_back_go_over_the_stream_again(self):
        state = FROM_0[-1]
        for wanted in reversed((0,) + FROM_0[:-1]):
            state = state_before(state)
            self.assertEqual(state, wanted)


class JumpsTest(unittest.TestCase):
    def test_no_step_and_one(self):
        for seed in SEEDS:
            self.assertEqual(state_after(seed, 0), seed)
            self.assertEqual(state_after(seed, 1), next_state(seed))

    def test_jumps_lead_where_steps_do(self):
        for seed in SEEDS:
            state = seed
            for many in range(300):
                self.assertEqual(state_after(seed, many), state, (seed, many))
                state = stepped(state, 1)

    def test_far_jumps_lead_where_steps_do(self):
        for seed, many in ((0, 65535), (12345, 65536), (GREATEST, 100003)):
            self.assertEqual(state_after(seed, many), stepped(seed, many))

    def test_two_jumps_are_one_of_both_together(self):
        far = (0, 1, 7, 1048576, 2147483648, 4294967295, 4294967296, 10 ** 30 + 7, 10 ** 300)
        for seed in SEEDS:
            for one in far:
                for other in far:
                    twice = state_after(state_after(seed, one), other)
                    self.assertEqual(twice, state_after(seed, one + other), (seed, one, other))

    def test_the_way_leads_round(self):
        for seed in SEEDS:
            half = state_after(seed, ROUND // 2)
            self.assertNotEqual(half, seed)
            self.assertEqual(state_after(half, ROUND // 2), seed)
            self.assertEqual(state_after(seed, ROUND), seed)
            self.assertEqual(state_after(seed, ROUND - 1), state_before(seed))
            self.assertEqual(state_after(seed, 5 * ROUND + 3), stepped(seed, 3))

    def test_very_far_jumps_by_hand(self):
        # Behind many steps from 0 stands 1013904223 times (1 + f + f f + ..), f the factor, many of them.
        for many in (2147483648, 4294967295, 10 ** 30 + 7, 3 ** 500):
            factor = 1664525
            modulus = ROUND * (factor - 1)
            added = (pow(factor, many, modulus) - 1) % modulus // (factor - 1) * 1013904223
            for seed in SEEDS:
                wanted = (pow(factor, many, ROUND) * seed + added) % ROUND
                self.assertEqual(state_after(seed, many), wanted, (seed, many))


class BeyondTest(unittest.TestCase):
    def test_nothing_is_refused_somewhat_beyond_the_bounds(self):
        for seed in (-5, -1, ROUND, ROUND + 5):
            self.assertEqual(next_state(seed), stepped(seed, 1))
            self.assertEqual(next_state(state_before(seed)), seed % ROUND)
            self.assertEqual(bits_of(seed, 50), bits_of(seed % ROUND, 50))
            for many in (1, 2, 100):
                self.assertEqual(state_after(seed, many), stepped(seed, many))
            self.assertEqual(state_after(seed, ROUND), seed % ROUND)


class SplitTest(unittest.TestCase):
    def test_number_0_is_the_seed(self):
        for seed in SEEDS:
            self.assertEqual(split(seed, 0), seed)

    def test_against_state_after(self):
        for seed in SEEDS:
            for number in (1, 2, 3, 17, 4095, 4096, 10 ** 20):
                self.assertEqual(split(seed, number), state_after(seed, 1048576 * number), (seed, number))

    def test_against_steps(self):
        self.assertEqual(split(12345, 1), stepped(12345, 1048576))

    def test_numbers_lead_on_one_behind_the_other(self):
        for seed in SEEDS:
            self.assertEqual(split(split(seed, 3), 5), split(seed, 8))
            self.assertEqual(split(seed, 4096), seed)
            self.assertEqual(len({split(seed, number) for number in range(4096)}), 4096)


class BitsOfTest(unittest.TestCase):
    def test_none(self):
        for seed in SEEDS:
            self.assertEqual(bits_of(seed, 0), ())

    def test_by_hand(self):
        self.assertEqual(bits_of(0, 1), (0,))
        self.assertEqual(bits_of(0, 11), (0, 0, 1, 1, 0, 1, 0, 1, 1, 1, 1))
        self.assertEqual(bits_of(0x3C6EF35F, 3), (0, 1, 1))

    def test_the_edge_between_0_and_1(self):
        for state, bit in ((0, 0), (2147483647, 0), (2147483648, 1), (4294967295, 1)):
            self.assertEqual(bits_of(state_before(state), 1), (bit,))

    def test_step_by_step(self):
        for seed in SEEDS:
            wanted = []
            state = seed
            for step in range(500):
                state = stepped(state, 1)
                wanted.append(1 if state >= 2147483648 else 0)
            self.assertEqual(bits_of(seed, 500), tuple(wanted))

    def test_the_kind(self):
        row = bits_of(1, 40)
        self.assertIs(type(row), tuple)
        self.assertEqual({type(bit) for bit in row}, {int})

    def test_the_same_seed_has_the_same_bits(self):
        for seed in SEEDS:
            row = bits_of(seed, 300)
            self.assertEqual(bits_of(seed, 300), row)
            self.assertEqual(bits_of(seed, 120), row[:120])
            self.assertEqual(bits_of(state_after(seed, 120), 180), row[120:])


class PartedTest(unittest.TestCase):
    def test_by_hand(self):
        self.assertEqual(parted(()), ((), ()))
        self.assertEqual(parted((1,)), ((1,), ()))
        self.assertEqual(parted((1, 0)), ((1,), (0,)))
        self.assertEqual(parted((1, 0, 1)), ((1, 1), (0,)))
        self.assertEqual(parted((1, 0, 0, 1, 1)), ((1, 0, 1), (0, 1)))
        self.assertEqual(parted((1, 0, 0, 1, 1, 1)), ((1, 0, 1), (0, 1, 1)))

    def test_all_rows(self):
        for row in rows_up_to(7):
            one, other = parted(row)
            self.assertEqual((type(parted(row)), type(one), type(other)), (tuple, tuple, tuple))
            self.assertEqual(one, tuple(bit for place, bit in enumerate(row) if place % 2 == 0))
            self.assertEqual(other, tuple(bit for place, bit in enumerate(row) if place % 2 == 1))


class WovenTest(unittest.TestCase):
    def test_by_hand(self):
        self.assertEqual(woven((), ()), ())
        self.assertEqual(woven((1,), (0,)), (1, 0))
        self.assertEqual(woven((0, 0), (1, 1)), (0, 1, 0, 1))
        self.assertEqual(woven((1, 1, 0), (0, 1, 1)), (1, 0, 1, 1, 0, 1))

    def test_rows_of_unlike_lengths(self):
        self.assertEqual(woven((1,), ()), ())
        self.assertEqual(woven((), (1,)), ())
        self.assertEqual(woven((1, 1), (0,)), (1, 0))
        self.assertEqual(woven((1,), (0, 0)), (1, 0))
        self.assertEqual(woven((1, 0, 1, 1), (0, 1)), (1, 0, 0, 1))

    def test_all_rows(self):
        for one in rows_up_to(4):
            for other in rows_up_to(4):
                row = woven(one, other)
                both = min(len(one), len(other))
                self.assertIs(type(row), tuple)
                self.assertEqual(len(row), 2 * both)
                self.assertEqual(parted(row), (one[:both], other[:both]))

    def test_it_undoes_parted_but_for_an_odd_last_bit(self):
        for row in rows_up_to(7):
            one, other = parted(row)
            self.assertEqual(woven(one, other), row[:len(row) // 2 * 2])


if __name__ == "__main__":
    unittest.main()
