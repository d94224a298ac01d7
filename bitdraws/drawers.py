"""A drawer: draws from the bits of a seed, one by one, that can be taken back."""

from bitdraws.bits import Bits, bits_of
from bitdraws.errors import NoStep
from bitdraws.evens import even
from bitdraws.orders import choice, shuffled
from bitdraws.plans import pick


class Drawer:
    def __init__(self, seed, many):
        self.bits = Bits(bits_of(seed, many))
        # Pairs: how many bits were taken ahead of a draw, and what was drawn.
        self.steps = []

    def even(self, many):
        return self.noted(self.used(), even(self.bits, many))

    def pick(self, weights):
        return self.noted(self.used(), pick(self.bits, weights))

    def shuffled(self, row):
        return self.noted(self.used(), shuffled(self.bits, row))

    def choice(self, many, some):
        return self.noted(self.used(), choice(self.bits, many, some))

    def noted(self, used_ahead, thing):
        self.steps.append((used_ahead, thing))
        return thing

    def history(self):
        return tuple([thing for used_ahead, thing in self.steps])

    def used(self):
        return self.bits.used()

    def back(self):
        if len(self.steps) == 0:
            raise NoStep("there is no draw to take back")
        step = self.steps.pop()
        self.bits.go_back(step[0])
        return step[1]
