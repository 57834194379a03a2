"""The refusals: each one a class of its own, straight under CourtError."""


class CourtError(ValueError):
    pass


class NoHouse(CourtError):
    pass


class NoRule(CourtError):
    pass


class NoDeal(CourtError):
    pass


class NoDeed(CourtError):
    pass


class NoRide(CourtError):
    pass


class NoIll(CourtError):
    pass


class NoLine(CourtError):
    pass


class Empty(CourtError):
    pass


class NoFloor(CourtError):
    # Here and below, the words don't show the number: Python refuses to write out a very great one.
    def __init__(self, floor):
        CourtError.__init__(self, "the house has no such floor")
        self.floor = floor


class NoLift(CourtError):
    def __init__(self, lift):
        CourtError.__init__(self, "the house has no such lift")
        self.lift = lift


class Twice(CourtError):
    def __init__(self, tag):
        CourtError.__init__(self, "the tag is there already")
        self.tag = tag


class TooMany(CourtError):
    def __init__(self, most):
        CourtError.__init__(self, "there are too many states")
        self.most = most
