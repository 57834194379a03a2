"""Deeds: whether one is of the house."""

from liftcourt.errors import NoFloor, NoLift, NoRide


def need_floor(house, floor):
    if not 0 <= floor < house[0]:
        raise NoFloor(floor)


def need_lift(house, lift):
    if not 0 <= lift < len(house[1]):
        raise NoLift(lift)


def need_ride(house, start, goal):
    need_floor(house, start)
    need_floor(house, goal)
    if start == goal:
        raise NoRide("the start is the goal")


def need_deed(house, deed):
    if deed[0] == "come":
        need_ride(house, deed[2], deed[3])
    elif deed[0] not in ("fire", "calm"):
        need_lift(house, deed[1])
