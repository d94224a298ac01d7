"""Trees, and orders of what stands above one another: how many there are, their places, and how they are drawn."""

from bitdraws.bits import drawn_whole
from bitdraws.evens import even
from bitdraws.orders import check_place
from bitdraws.plans import pick

# A tree is gone over by its marks: one for the tree itself, then those of its left part, then those
# of its right one. So a tree may be deeper than calls may stand within one another.
LEAF = 0
PAIR = 1


def counts_up_to(many):
    counts = [1]
    for pairs in range(many):
        counts.append(counts[pairs] * (4 * pairs + 2) // (pairs + 2))
    return counts


def count_trees(many):
    return counts_up_to(many)[many] if many >= 0 else 0


def marks_of(shape):
    marks = []
    parts = [shape]
    while len(parts) > 0:
        part = parts.pop()
        if len(part) == 0:
            marks.append(LEAF)
        else:
            marks.append(PAIR)
            parts.append(part[1])
            parts.append(part[0])
    return marks


def built(marks, leaf, joined):
    # From the last mark on, for the parts of a pair must be there ahead of it.
    parts = []
    for mark in reversed(marks):
        if mark == LEAF:
            parts.append(leaf)
        else:
            left = parts.pop()
            right = parts.pop()
            parts.append(joined(left, right))
    return parts.pop()


def tree_of(marks):
    return built(marks, (), lambda left, right: (left, right))


def tree_at(many, place):
    check_place(place, count_trees(many))
    counts = counts_up_to(many)
    marks = []
    parts = [(many, place)]
    while len(parts) > 0:
        part = parts.pop()
        if part[0] == 0:
            marks.append(LEAF)
        else:
            marks.append(PAIR)
            sides = sides_at(counts, part[0], part[1])
            parts.append(sides[1])
            parts.append(sides[0])
    return tree_of(marks)


def sides_at(counts, many, place):
    left = 0
    right = many - 1
    rest = place
    while rest >= counts[left] * counts[right]:
        rest = rest - counts[left] * counts[right]
        left = left + 1
        right = right - 1
    return ((left, rest // counts[right]), (right, rest % counts[right]))


def place_of_tree(shape):
    marks = marks_of(shape)
    counts = counts_up_to(marks.count(PAIR))
    return built(marks, (0, 0), lambda left, right: joined_place(counts, left, right))[1]


def joined_place(counts, left, right):
    both = left[0] + right[0]
    ahead = sum([counts[pairs] * counts[both - pairs] for pairs in range(left[0])])
    return (both + 1, ahead + left[1] * counts[right[0]] + right[1])


def tree(bits, many):
    return tree_at(many, even(bits, count_trees(many)))


def grown(figures):
    marks = [LEAF]
    for figure in figures:
        begin = figure // 2
        end = end_of_part(marks, begin)
        part = marks[begin:end]
        pair = [PAIR, LEAF] + part if figure % 2 == 0 else [PAIR] + part + [LEAF]
        marks = marks[:begin] + pair + marks[end:]
    return tree_of(marks)


def end_of_part(marks, begin):
    end = begin
    lacking = 1
    while lacking > 0:
        # A pair is one part that was lacking, and lacks two.
        lacking = lacking + 1 if marks[end] == PAIR else lacking - 1
        end = end + 1
    return end


def grow(bits, many):
    return drawn_whole(bits, take_grown, many)


def take_grown(bits, many):
    return grown([even(bits, 2 * (2 * turn + 1)) for turn in range(many)])


def sizes_under(above):
    sizes = [1 for number in above]
    # From the last one on: what stands under a number is greater, and so is told whole ahead of it.
    for number in range(len(above) - 1, -1, -1):
        upper = above[number]
        if upper is not None:
            sizes[upper] = sizes[upper] + sizes[number]
    return sizes


def count_orders(above):
    all_orders = 1
    for_each = 1
    for number, size in enumerate(sizes_under(above)):
        all_orders = all_orders * (number + 1)
        # A number comes ahead of all that stand under it in one of as many orders as they are with it.
        for_each = for_each * size
    return all_orders // for_each


def order_under(bits, above):
    return drawn_whole(bits, take_order_under, above)


def take_order_under(bits, above):
    sizes = sizes_under(above)
    coming = [number for number, upper in enumerate(above) if upper is None]
    row = []
    while len(coming) > 0:
        picked = coming[pick(bits, tuple([sizes[number] for number in coming]))]
        row.append(picked)
        freed = [number for number, upper in enumerate(above) if upper == picked]
        coming = sorted([number for number in coming if number != picked] + freed)
    return tuple(row)
