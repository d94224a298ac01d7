"""Numbers by shares: tables with columns, and sums of weights."""

from bitdraws.evens import even
from bitdraws.fractions import fraction
from bitdraws.kinds import is_row, is_whole_number


def table_of(weights):
    high = sum(weights)
    left = [weight * len(weights) for weight in weights]
    small = [number for number, part in enumerate(left) if part < high]
    great = [number for number, part in enumerate(left) if part >= high]
    table = [(high, number) for number in range(len(weights))]
    while len(small) > 0:
        number = small.pop(0)
        other = great[0]
        table[number] = (left[number], other)
        left[other] = left[other] - (high - left[number])
        if left[other] < high:
            small.append(great.pop(0))
    return tuple(table)


def parts_of(table, high):
    parts = {}
    for number, column in enumerate(table):
        # A cut beyond the column leaves nothing of it for the one on its other side.
        below = max(0, min(column[0], high))
        parts[number] = parts.get(number, 0) + below
        parts[column[1]] = parts.get(column[1], 0) + high - below
    return [parts[number] for number in range(len(table))]


def shares_of_table(table, high):
    return tuple([fraction(part, high * len(table)) for part in parts_of(table, high)])


def is_column(thing, high, many):
    return is_row(thing, 2) and is_whole_number(thing[0], 0, high) and is_whole_number(thing[1], 0, many - 1)


def is_table(weights, thing):
    high = sum(weights)
    many = len(weights)
    if not is_row(thing, many) or not all([is_column(column, high, many) for column in thing]):
        return False
    return parts_of(thing, high) == [weight * many for weight in weights]


def by_table(bits, table, high):
    number = even(bits, high * len(table))
    column = table[number // high]
    return number // high if number % high < column[0] else column[1]


def sums_of(weights):
    sums = []
    together = 0
    for weight in weights:
        together = together + weight
        sums.append(together)
    return tuple(sums)


def number_by(sums, place):
    for number, together in enumerate(sums):
        if together > place:
            return number
    return None
