"""Rows of bits that are taken one by one, and the streams of bits that come from seeds."""

from bitdraws.errors import NoBits, NoPlace

STATES = 4294967296
HALF_OF_STATES = 2147483648
FACTOR = 1664525
ADDED = 1013904223
# FACTOR times this has the rest 1 by STATES, so it undoes the factor of a step.
BACK_FACTOR = 4276115653
STEPS_OF_A_SPLIT = 1048576


class Bits:
    def __init__(self, row):
        self.row = tuple(row)
        self.place = 0

    def take(self):
        if self.left() == 0:
            raise NoBits("no bit is left")
        bit = self.row[self.place]
        self.place = self.place + 1
        return bit

    def used(self):
        return self.place

    def left(self):
        return len(self.row) - self.place

    def go_back(self, many):
        if many < 0 or many > self.place:
            raise NoPlace("so many bits were not taken")
        self.place = many


def drawn_whole(bits, draw, shape):
    used_before = bits.used()
    try:
        return draw(bits, shape)
    except NoBits:
        # A draw that is refused takes no bit, also if the first ones for it were there.
        bits.go_back(used_before)
        raise NoBits("there are too few bits for this draw") from None


def next_state(state):
    return (FACTOR * state + ADDED) % STATES


def bits_of(seed, many):
    state = seed
    row = []
    while len(row) < many:
        state = next_state(state)
        row.append(1 if state >= HALF_OF_STATES else 0)
    return tuple(row)


def state_after(seed, many):
    state = seed
    steps_left = many
    # A jump of 1, 2, 4, .. steps is again a factor and something added, so
    # far numbers of steps take as many turns as they have figures in twos.
    factor = FACTOR
    added = ADDED
    while steps_left > 0:
        if steps_left % 2 == 1:
            state = (factor * state + added) % STATES
        added = (factor * added + added) % STATES
        factor = factor * factor % STATES
        steps_left = steps_left // 2
    return state


def state_before(state):
    return (state - ADDED) * BACK_FACTOR % STATES


def split(seed, number):
    return state_after(seed, STEPS_OF_A_SPLIT * number)


def parted(row):
    return (row[0::2], row[1::2])


def woven(one, other):
    row = []
    for first, second in zip(one, other):
        row.append(first)
        row.append(second)
    return tuple(row)
