"""The refusals: DrawError is any of them, and each has a class of its own below it."""


class DrawError(ValueError):
    pass


class NoBits(DrawError):
    pass


class NoShares(DrawError):
    pass


class NoPlace(DrawError):
    pass


class NoStep(DrawError):
    pass


class NoText(DrawError):
    pass
