"""Fractions: pairs (upper, lower) without a common divisor above 1, lower from 1 on."""


def common_divisor(one, other):
    great = abs(one)
    small = abs(other)
    while small > 0:
        rest = great % small
        great = small
        small = rest
    return great


def fraction(upper, lower):
    if lower == 0:
        raise ZeroDivisionError("a fraction has no lower number 0")
    divisor = common_divisor(upper, lower)
    # The sign belongs to the upper number: the lower one is from 1 on.
    if lower < 0:
        divisor = -divisor
    return (upper // divisor, lower // divisor)


def plus(one, other):
    return fraction(one[0] * other[1] + other[0] * one[1], one[1] * other[1])


def minus(one, other):
    return fraction(one[0] * other[1] - other[0] * one[1], one[1] * other[1])


def times(one, other):
    return fraction(one[0] * other[0], one[1] * other[1])


def over(one, other):
    return fraction(one[0] * other[1], one[1] * other[0])
