"""Orders, choices and rows of parts: their places, how they are drawn, and what is kept of things that come."""

from bitdraws.bits import drawn_whole
from bitdraws.errors import NoPlace
from bitdraws.evens import even


def check_place(place, many):
    if place < 0 or place >= many:
        raise NoPlace("there is nothing at this place")


def count_figures(radices):
    count = 1
    for radix in radices:
        # Below a radix under 1 there is no figure, so two such ones must not make up for one another.
        count = count * max(0, radix)
    return count


def figures_at(radices, place):
    check_place(place, count_figures(radices))
    figures = []
    rest = place
    for radix in reversed(radices):
        figures.append(rest % radix)
        rest = rest // radix
    return tuple(reversed(figures))


def place_of_figures(radices, figures):
    place = 0
    for radix, figure in zip(radices, figures):
        place = place * radix + figure
    return place


def radices_of_orders(many):
    # A figure tells which of the numbers that are left comes next, and each time one fewer is left.
    return tuple(range(many, 0, -1))


def order_at(many, place):
    left = list(range(many))
    row = []
    for figure in figures_at(radices_of_orders(many), place):
        row.append(left.pop(figure))
    return tuple(row)


def place_of_order(row):
    left = sorted(row)
    figures = []
    for number in row:
        figures.append(left.index(number))
        left.remove(number)
    return place_of_figures(radices_of_orders(len(row)), figures)


def places_of_swaps(many):
    return list(range(many - 1, 0, -1))


def exchange(things, one, other):
    thing = things[one]
    things[one] = things[other]
    things[other] = thing


def by_swaps(row, figures):
    things = list(row)
    for place, figure in zip(places_of_swaps(len(things)), figures):
        exchange(things, place, figure)
    return tuple(things)


def swaps_of(row, other):
    things = list(row)
    figures = []
    for place in places_of_swaps(len(things)):
        figure = things.index(other[place])
        exchange(things, place, figure)
        figures.append(figure)
    return tuple(figures)


def ways(many, some):
    if some < 0 or some > many:
        return 0
    count = 1
    for turn in range(min(some, many - some)):
        count = count * (many - turn) // (turn + 1)
    return count


def choice_at(many, some, place):
    count = ways(many, some)
    check_place(place, count)
    # Choices with numbers among the last ones alone stand at the end, and ways tells how many
    # there are: so places are counted from the end.
    behind = count - 1 - place
    last_ones = many
    numbers = []
    for lacking in range(some, 0, -1):
        last_ones = last_ones_within(last_ones, lacking, behind)
        behind = behind - ways(last_ones, lacking)
        numbers.append(many - 1 - last_ones)
    return tuple(numbers)


def last_ones_within(below, some, most):
    # The greatest number below this one of which there are at most so many choices: first in
    # steps that double, then by halves, for it may be near as well as far.
    high = below
    step = 1
    while ways(high - step, some) > most:
        high = high - step
        step = 2 * step
    low = high - step
    while high - low > 1:
        middle = (low + high) // 2
        if ways(middle, some) > most:
            high = middle
        else:
            low = middle
    return low


def place_of_choice(many, numbers):
    some = len(numbers)
    behind = sum([ways(many - 1 - number, some - turn) for turn, number in enumerate(numbers)])
    return ways(many, some) - 1 - behind


def parts_at(total, many, place):
    if many == 0:
        # Nothing comes to 0 alone, in one way.
        check_place(place, 1 if total == 0 else 0)
        return ()
    # As many bars as part the row stand among total things; parts rise as the places of bars do.
    room = total + many - 1
    bars = choice_at(room, many - 1, place)
    return tuple([end - begin - 1 for begin, end in zip((-1,) + bars, bars + (room,))])


def shuffled(bits, row):
    return drawn_whole(bits, take_shuffled, row)


def take_shuffled(bits, row):
    return by_swaps(row, [even(bits, place + 1) for place in places_of_swaps(len(row))])


def order(bits, many):
    return order_at(many, even(bits, count_figures(radices_of_orders(many))))


def choice(bits, many, some):
    count = ways(many, some)
    # Asked first, for NoPlace comes ahead of NoBits.
    check_place(0, count)
    return choice_at(many, some, even(bits, count))


class Kept:
    def __init__(self, bits, room):
        self.bits = bits
        self.most = room
        self.things = []
        self.came = 0

    def tell(self, thing):
        if self.came < self.most:
            self.came = self.came + 1
            self.things.append(thing)
            return None
        # The draw comes ahead of all that changes, for it may be refused.
        place = even(self.bits, self.came + 1)
        self.came = self.came + 1
        if place >= self.most:
            return thing
        gone = self.things[place]
        self.things[place] = thing
        return gone

    def kept(self):
        return tuple(self.things)

    def many(self):
        return self.came
