"""Plans as texts: written, and read again."""

from bitdraws.errors import NoText
from bitdraws.plans import AGAIN, GREATEST_NUMBER, MOST_ASKS


def written(plan):
    if plan[0] == "is":
        return str(plan[1]) + "."
    if plan[0] == "again":
        return "*"
    return "?" + written(plan[1]) + written(plan[2])


def read(text):
    part = read_part(text, 0, MOST_ASKS)
    if part[1] < len(text):
        raise NoText("there are signs behind the plan")
    return part[0]


def read_part(text, begin, most_asks):
    sign = text[begin:begin + 1]
    if sign == "*":
        return (AGAIN, begin + 1)
    if sign != "?":
        return read_number(text, begin)
    if most_asks == 0:
        raise NoText("too many asks stand one behind the other")
    zero = read_part(text, begin + 1, most_asks - 1)
    one = read_part(text, zero[1], most_asks - 1)
    return (("ask", zero[0], one[0]), one[1])


def read_number(text, begin):
    part = text[begin:text.find(".", begin) + 1]
    # Just as it is written: so there are no noughts ahead, and no other signs.
    for number in range(GREATEST_NUMBER + 1):
        if part == written(("is", number)):
            return (("is", number), begin + len(part))
    raise NoText("no plan stands here")
