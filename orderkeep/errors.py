"""The refusals: each has a class of its own, and all stand under OrderError."""


class OrderError(ValueError):
    pass


class NoWeb(OrderError):
    pass


class NoText(OrderError):
    def __init__(self, line):
        self.line = line


class Ring(OrderError):
    def __init__(self, ring):
        # A copy, so that a later change of the list handed in changes nothing here.
        self.ring = list(ring)


class NoOrder(OrderError):
    pass


class NoWeights(OrderError):
    pass


class NoHouse(OrderError):
    pass


class NoDeed(OrderError):
    pass


class NoUnit(OrderError):
    def __init__(self, name):
        self.name = name


class Twice(OrderError):
    pass


class Within(OrderError):
    pass


class NoTie(OrderError):
    pass


class Full(OrderError):
    pass


class Apart(OrderError):
    pass


class NoWant(OrderError):
    pass


class TooMany(OrderError):
    pass


class NoUndo(OrderError):
    pass


class NoRedo(OrderError):
    pass


class Clash(OrderError):
    pass


class NoRow(OrderError):
    pass
