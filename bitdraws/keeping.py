"""Even numbers by a keeper, which has what is left of the bits of one draw for the next."""

from bitdraws.bits import drawn_whole


class Keeper:
    def __init__(self, bits, most):
        self.bits = bits
        self.most = most
        self.number = 0
        self.size = 1

    def room(self):
        return (self.number, self.size)

    def draw(self, many):
        shape = (self.number, self.size, self.most * many, many)
        drawn = drawn_whole(self.bits, take_with_room, shape)
        self.number = drawn[1]
        self.size = drawn[2]
        return drawn[0]


def take_with_room(bits, shape):
    number = shape[0]
    size = shape[1]
    least = shape[2]
    many = shape[3]
    while True:
        while size < least:
            number = 2 * number + bits.take()
            size = 2 * size
        often = size // many
        if number < often * many:
            return (number % many, number // many, often)
        number = number - often * many
        size = size - often * many
