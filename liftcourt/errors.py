"""The refusals: each one a class of its own, straight under CourtError."""


class CourtError(ValueError):
    pass


class NoHouse(CourtError):
    pass


class NoRule(CourtError):
    pass


class NoDeal(CourtError):
    pass


class NoDeed(CourtError):
    pass


class NoRide(CourtError):
    pass


class NoIll(CourtError):
    pass


class NoLine(CourtError):
    pass


class Empty(CourtError):
    pass


class NoFloor(CourtError):
    def __init__(self, floor):
        CourtError.__init__(self, f"the house has no floor {floor}")
        self.floor = floor


class NoLift(CourtError):
    def __init__(self, lift):
        CourtError.__init__(self, f"the house has no lift {lift}")
        self.lift = lift


class Twice(CourtError):
    def __init__(self, tag):
        CourtError.__init__(self, f"the tag {tag} is there already")
        self.tag = tag


class TooMany(CourtError):
    def __init__(self, most):
        CourtError.__init__(self, f"there are more states than {most}")
        self.most = most
