"""Point 9: how long a door stands open yet."""

import unittest

from liftcourt.doors import Door, Hasty, Slow, door_of

KINDS = [("plain", Door), ("hasty", Hasty), ("slow", Slow)]
BOTH = (False, True)


def doors_and_counts():
    return [(turns, count) for turns in range(1, 5) for count in range(1, turns + 1)]


class Standing(unittest.TestCase):
    def test_what_stands_under_what(self):
        self.assertEqual(Hasty.__bases__, (Door,))
        self.assertEqual(Slow.__bases__, (Door,))
        self.assertFalse(issubclass(Hasty, Slow))
        self.assertFalse(issubclass(Slow, Hasty))

    def test_the_door_of_a_kind_is_of_just_that_class(self):
        for kind, door_class in KINDS:
            for turns in range(1, 5):
                door = door_of(kind, turns)
                self.assertIs(type(door), door_class)
                self.assertEqual(door.turns, turns)

    def test_the_turns_are_set_when_a_door_is_made(self):
        for kind, door_class in KINDS:
            first = door_class(3)
            second = door_class(4)
            self.assertEqual((first.turns, second.turns), (3, 4))
            self.assertFalse(hasattr(door_class, "turns"))

    def test_what_is_done_to_a_door_changes_no_other_one(self):
        for kind, door_class in KINDS:
            door_of(kind, 2).turns = 9
            self.assertEqual(door_of(kind, 2).turns, 2)
            self.assertEqual(door_of(kind, 2).left(2, False, False), 1)


class Left(unittest.TestCase):
    def assertLeft(self, kind, turns, count, blocked, stepped, expected):
        told = door_of(kind, turns).left(count, blocked, stepped)
        self.assertEqual(told, expected, (kind, turns, count, blocked, stepped))
        self.assertIs(type(told), int)

    def test_nobody_stands_in_it_and_nobody_stepped(self):
        for kind, door_class in KINDS:
            for turns, count in doors_and_counts():
                self.assertLeft(kind, turns, count, False, False, count - 1)

    def test_a_plain_door(self):
        for turns, count in doors_and_counts():
            for stepped in BOTH:
                self.assertLeft("plain", turns, count, True, stepped, turns)
            self.assertLeft("plain", turns, count, False, True, count - 1)

    def test_a_hasty_door(self):
        for turns, count in doors_and_counts():
            for stepped in BOTH:
                self.assertLeft("hasty", turns, count, True, stepped, count)
            self.assertLeft("hasty", turns, count, False, True, count - 1)

    def test_a_slow_door(self):
        for turns, count in doors_and_counts():
            self.assertLeft("slow", turns, count, True, False, turns)
            self.assertLeft("slow", turns, count, True, True, turns)
            self.assertLeft("slow", turns, count, False, True, turns)

    def test_the_last_turn_shuts_it(self):
        for kind, door_class in KINDS:
            self.assertLeft(kind, 4, 1, False, False, 0)
            self.assertLeft(kind, 1, 1, False, False, 0)

    def test_a_door_made_by_its_class(self):
        for kind, door_class in KINDS:
            for turns, count in doors_and_counts():
                for blocked in BOTH:
                    for stepped in BOTH:
                        expected = door_of(kind, turns).left(count, blocked, stepped)
                        self.assertEqual(door_class(turns).left(count, blocked, stepped), expected)

    def test_being_asked_changes_nothing(self):
        for kind, door_class in KINDS:
            door = door_of(kind, 3)
            asked = [(count, blocked, stepped) for count in (1, 2, 3) for blocked in BOTH for stepped in BOTH]
            forth = [door.left(*things) for things in asked]
            back = [door.left(*things) for things in asked[::-1]]
            self.assertEqual(forth, back[::-1])
            self.assertEqual(door.turns, 3)


if __name__ == "__main__":
    unittest.main()
