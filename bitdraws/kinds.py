"""What kind of thing something is, asked of any thing."""


def is_whole_number(thing, least, most):
    # True and False are ints to Python, but no whole numbers here.
    if isinstance(thing, bool) or not isinstance(thing, int):
        return False
    return least <= thing <= most


def is_row(thing, many):
    return isinstance(thing, tuple) and len(thing) == many
