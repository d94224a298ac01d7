"""Figures in twos: those behind the point of a fraction, and the fraction that figures tell."""

from bitdraws.fractions import fraction
from bitdraws.kinds import is_row


def digits(upper, lower, many):
    rest = upper % lower
    figures = []
    while len(figures) < many:
        figures.append(2 * rest // lower)
        rest = 2 * rest % lower
    return tuple(figures)


def rests_of(upper, lower):
    rest = upper % lower
    places = {}
    while rest > 0 and rest not in places:
        places[rest] = len(places)
        rest = 2 * rest % lower
    rests = tuple(places)
    # A rest leads to all that follows it, so the figures come again just where the rests do.
    begin = places.get(rest, len(rests))
    return (rests[:begin], rests[begin:])


def expansion(upper, lower):
    rests = rests_of(upper, lower)
    return (figures_text(rests[0], lower), figures_text(rests[1], lower))


def figures_text(rests, lower):
    return "".join([str(2 * rest // lower) for rest in rests])


def number_in_twos(figures):
    number = 0
    for figure in figures:
        number = 2 * number + figure
    return number


def sum_by_halves(ahead, again):
    # The first number is halved once, the second twice, and so on; those of again come for ever.
    lower = 1 << len(ahead)
    upper = number_in_twos(ahead)
    if len(again) == 0:
        return fraction(upper, lower)
    round_lower = (1 << len(again)) - 1
    return fraction(upper * round_lower + number_in_twos(again), lower * round_lower)


def value_of(ahead, again):
    return sum_by_halves([int(sign) for sign in ahead], [int(sign) for sign in again])


def is_figures_text(thing):
    return isinstance(thing, str) and all([sign in ("0", "1") for sign in thing])


def are_figures(upper, lower, thing):
    if not is_row(thing, 2) or not is_figures_text(thing[0]) or not is_figures_text(thing[1]):
        return False
    return value_of(thing[0], thing[1]) == fraction(upper, lower)


def depth_sum(upper, lower):
    # A figure at place n counts n times: once in what stands behind each of the places 0 to
    # n - 1. What stands behind a place is the rest there over lower, halved as often as it says.
    rests = rests_of(upper, lower)
    half = sum_by_halves(rests[0], rests[1])
    return fraction(2 * half[0], lower * half[1])
