"""Bits of one unknown share made even: by pairs, by pairs of what they leave, and by places."""

from bitdraws.bits import parted
from bitdraws.digits import digits
from bitdraws.orders import place_of_choice, ways


def pairs_of(row):
    sides = parted(row)
    return list(zip(sides[0], sides[1]))


def evened(row):
    return tuple([second for first, second in pairs_of(row) if first != second])


def evened_on(row, deep):
    told = evened(row)
    if deep <= 0 or len(row) < 2:
        return told
    pairs = pairs_of(row)
    of_like_pairs = tuple([first for first, second in pairs if first == second])
    of_all_pairs = tuple([1 if first != second else 0 for first, second in pairs])
    return told + evened_on(of_like_pairs, deep - 1) + evened_on(of_all_pairs, deep - 1)


def ranked(row):
    ones = tuple([place for place, bit in enumerate(row) if bit == 1])
    count = ways(len(row), len(ones))
    widths = [wide for wide in range(count.bit_length() - 1, -1, -1) if (count >> wide) % 2 == 1]
    rest = place_of_choice(len(row), ones)
    wide = widths.pop(0)
    while rest >= 1 << wide:
        rest = rest - (1 << wide)
        wide = widths.pop(0)
    return digits(rest, 1 << wide, wide)
