"""Even numbers: each number below another is as likely, drawn simply or with the fewest bits."""

from bitdraws.bits import drawn_whole
from bitdraws.digits import rests_of, sum_by_halves
from bitdraws.fractions import fraction


def simple_even(bits, many):
    return drawn_whole(bits, take_simple_even, many)


def take_simple_even(bits, many):
    width = width_for(many)
    number = take_number(bits, width)
    while number >= many:
        number = take_number(bits, width)
    return number


def width_for(many):
    width = 0
    while (1 << width) < many:
        width = width + 1
    return width


def take_number(bits, width):
    number = 0
    for turn in range(width):
        number = 2 * number + bits.take()
    return number


def even(bits, many):
    return drawn_whole(bits, take_even, many)


def take_even(bits, many):
    number = 0
    size = 1
    while True:
        while size < many:
            number = 2 * number + bits.take()
            size = 2 * size
        if number < many:
            return number
        number = number - many
        size = size - many


def mean_simple(many):
    width = width_for(many)
    # Of all numbers so wide many end the draw, so it takes all over many turns in the mean.
    return fraction(width * (1 << width), many)


def sizes_of(many):
    # Doubled, and less by many where it can be, the sizes ahead of the bits are the rests of 1,
    # 2, 4, .. by many.
    return rests_of(1, many)


def mean_even(many):
    # Of all rows of bits as long, size many have not ended: each over all of them is how likely
    # the next bit is taken.
    sizes = sizes_of(many)
    half = sum_by_halves(sizes[0], sizes[1])
    return fraction(2 * half[0], half[1])


def rooms(many):
    sizes = sizes_of(many)
    again = len(sizes[0]) if len(sizes[1]) > 0 else None
    return (sizes[0] + sizes[1], again)
