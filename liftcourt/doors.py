"""Doors: how many turns one stands open yet, behind a turn in which it was open."""


class Door:
    def __init__(self, turns):
        self.turns = turns

    def left(self, count, blocked, stepped):
        return self.turns if blocked else count - 1


class Hasty(Door):
    def left(self, count, blocked, stepped):
        return count if blocked else count - 1


class Slow(Door):
    def left(self, count, blocked, stepped):
        return self.turns if blocked or stepped else count - 1


def door_of(kind, turns):
    if kind == "hasty":
        return Hasty(turns)
    if kind == "slow":
        return Slow(turns)
    return Door(turns)
