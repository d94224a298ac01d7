"""Numbers by shares: picked by weights, and told by plans that ask bits."""

from bitdraws.bits import drawn_whole
from bitdraws.digits import depth_sum
from bitdraws.errors import NoShares
from bitdraws.fractions import fraction, plus
from bitdraws.kinds import is_row, is_whole_number

GREATEST_NUMBER = 99
MOST_ASKS = 12
AGAIN = ("again",)


def pick(bits, weights):
    total = sum(weights)
    if total in weights:
        return weights.index(total)
    return drawn_whole(bits, take_pick, weights)


def take_pick(bits, weights):
    total = sum(weights)
    rests = weights
    place = 0
    while True:
        place = 2 * place + bits.take()
        ends = [number for number, rest in enumerate(rests) if 2 * rest >= total]
        if place < len(ends):
            return ends[place]
        place = place - len(ends)
        rests = [2 * rest % total for rest in rests]


def mean_pick(weights):
    # A weight that is all has no figure behind the point, and takes no bit.
    total = sum(weights)
    mean = (0, 1)
    for weight in weights:
        mean = plus(mean, depth_sum(weight, total))
    return mean


def coin(bits, upper, lower):
    return pick(bits, (lower - upper, upper)) == 1


def is_plan(thing):
    return is_plan_within(thing, MOST_ASKS)


def is_plan_within(thing, most_asks):
    if is_row(thing, 1):
        return thing == AGAIN
    if is_row(thing, 2):
        return thing[0] == "is" and is_whole_number(thing[1], 0, GREATEST_NUMBER)
    if not is_row(thing, 3) or thing[0] != "ask" or most_asks == 0:
        return False
    return is_plan_within(thing[1], most_asks - 1) and is_plan_within(thing[2], most_asks - 1)


def ends_of(plan, depth):
    if plan[0] == "ask":
        return ends_of(plan[1], depth + 1) + ends_of(plan[2], depth + 1)
    return [(depth, plan)]


def deep(plan):
    return max([depth for depth, end in ends_of(plan, 0)])


def numbered_ends(plan):
    ends = [(depth, end[1]) for depth, end in ends_of(plan, 0) if end != AGAIN]
    if len(ends) == 0:
        raise NoShares("no number stands in the plan")
    return ends


def rows_to(depth, deepest):
    # Of all rows of bits as long as the plan is deep, so many lead to one end.
    return 1 << (deepest - depth)


def shares_of(plan):
    deepest = deep(plan)
    rows = {}
    for depth, number in numbered_ends(plan):
        rows[number] = rows.get(number, 0) + rows_to(depth, deepest)
    # Rows that lead to again begin anew, and so leave the shares of the others as they are.
    total = sum(rows.values())
    return tuple([(number, fraction(rows[number], total)) for number in sorted(rows)])


def mean_of(plan):
    deepest = deep(plan)
    ending = sum([rows_to(depth, deepest) for depth, number in numbered_ends(plan)])
    taken = sum([depth * rows_to(depth, deepest) for depth, end in ends_of(plan, 0)])
    # Each turn takes the bits of one way down, and as many turns come as rows do for an ending one.
    return fraction(taken, ending)


def by_plan(bits, plan):
    # Asked first, for NoShares comes ahead of NoBits.
    numbered_ends(plan)
    return drawn_whole(bits, take_by_plan, plan)


def take_by_plan(bits, plan):
    part = plan
    while part[0] != "is":
        if part == AGAIN:
            part = plan
        else:
            part = part[1 + bits.take()]
    return part[1]


def plan_of(weights):
    total = sum(weights)
    depth = 0
    while (1 << depth) < total:
        depth = depth + 1
    ends = [(weight, ("is", number)) for number, weight in enumerate(weights)]
    ends.append(((1 << depth) - total, AGAIN))
    # From the lowest depth up, where the last figure stands: two parts are one ask above them.
    parts = []
    for place in range(depth + 1):
        asks = [("ask", parts[left], parts[left + 1]) for left in range(0, len(parts), 2)]
        parts = [end for weight, end in ends if (weight >> place) % 2 == 1] + asks
    return parts[0]
