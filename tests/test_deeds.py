"""Point 18: whether a deed is one of the house."""

import unittest

from liftcourt.deeds import need_deed
from liftcourt.errors import CourtError, NoFloor, NoLift, NoRide
from liftcourt.houses import made_house

FAR = (10 ** 30 - 1, -(10 ** 30) + 1, 10 ** 29, -(10 ** 29), 10 ** 5000, -(10 ** 5000))
OF_A_LIFT = ("block", "stick", "free", "goods", "back")
TAGS = (0, 7, 10 ** 60 - 1)


def house_of(floors, lifts=1, locked=0, sort="free"):
    return made_house(floors, [(0, 1, 1, "plain")] * lifts, locked, sort)


def beyond(many):
    return (-1, -2, -many, many, many + 1, 2 * many) + FAR


class Case(unittest.TestCase):
    def assertIsDeed(self, house, deed):
        self.assertIs(need_deed(house, deed), None)

    def assertRefused(self, house, deed, error, **fields):
        with self.assertRaises(error) as caught:
            need_deed(house, deed)
        self.assertIs(type(caught.exception), error)
        self.assertIsInstance(caught.exception, CourtError)
        for name, number in fields.items():
            self.assertIs(type(getattr(caught.exception, name)), int)
            self.assertEqual(getattr(caught.exception, name), number)


class Comings(Case):
    def test_all_of_a_house(self):
        for floors in range(2, 9):
            house = house_of(floors)
            for start in range(floors):
                for goal in range(floors):
                    for key in (True, False):
                        deed = ("come", 3, start, goal, key)
                        if start == goal:
                            self.assertRefused(house, deed, NoRide)
                        else:
                            self.assertIsDeed(house, deed)

    def test_a_start_that_is_no_floor(self):
        for floors in range(2, 9):
            for start in beyond(floors):
                for goal in (0, floors - 1):
                    deed = ("come", 3, start, goal, False)
                    self.assertRefused(house_of(floors), deed, NoFloor, floor=start)

    def test_a_goal_that_is_no_floor(self):
        for floors in range(2, 9):
            for goal in beyond(floors):
                for start in (0, floors - 1):
                    deed = ("come", 3, start, goal, True)
                    self.assertRefused(house_of(floors), deed, NoFloor, floor=goal)

    def test_the_start_is_asked_ahead_of_the_goal(self):
        for start in beyond(5):
            for goal in beyond(5):
                self.assertRefused(house_of(5), ("come", 3, start, goal, False), NoFloor, floor=start)

    def test_one_floor_that_is_none_is_no_floor_ahead_of_no_ride(self):
        for floor in beyond(4):
            self.assertRefused(house_of(4), ("come", 3, floor, floor, False), NoFloor, floor=floor)

    def test_tags_keys_and_locked_floors_are_not_looked_at(self):
        for tag in TAGS:
            for key in (True, False):
                for sort in ("free", "way"):
                    house = house_of(4, 2, 14, sort)
                    self.assertIsDeed(house, ("come", tag, 0, 3, key))
                    self.assertIsDeed(house, ("come", tag, 3, 0, key))
                    self.assertIsDeed(house, ("come", tag, 1, 2, key))
                    self.assertRefused(house, ("come", tag, 4, 0, key), NoFloor, floor=4)
                    self.assertRefused(house, ("come", tag, 3, 3, key), NoRide)

    def test_a_tag_that_is_a_lift_or_floor_beyond(self):
        self.assertIsDeed(house_of(2), ("come", 99, 0, 1, False))
        self.assertRefused(house_of(2), ("come", 0, 2, 1, False), NoFloor, floor=2)


class OfALift(Case):
    def test_lifts_of_the_house(self):
        for name in OF_A_LIFT:
            for lifts in (1, 2, 3):
                for lift in range(lifts):
                    self.assertIsDeed(house_of(2, lifts), (name, lift))

    def test_lifts_that_the_house_has_not(self):
        for name in OF_A_LIFT:
            for lifts in (1, 2, 3):
                for lift in beyond(lifts):
                    self.assertRefused(house_of(8, lifts), (name, lift), NoLift, lift=lift)


class OfTheWhole(Case):
    def test_fire_and_calm_are_always_of_the_house(self):
        for floors in (2, 8):
            for lifts in (1, 3):
                self.assertIsDeed(house_of(floors, lifts), ("fire",))
                self.assertIsDeed(house_of(floors, lifts), ("calm",))


if __name__ == "__main__":
    unittest.main()
