"""Points 6 and 7: houses made, written and read."""

import itertools
import unittest

from helpers import off_by_one_sign
from liftcourt.errors import NoHouse
from liftcourt.houses import made_house, read_house, shown_house
from restated_houses import expected_house

KINDS = ("plain", "hasty", "slow")
SORTS = ("free", "way")
LIFT = (0, 1, 1, "plain")
GREAT = 10 ** 5000

WRITTEN = [
    ("5 way 3 4; 0 2 1 plain; 4 3 2 hasty", (5, ((0, 2, 1, "plain"), (4, 3, 2, "hasty")), 24, "way")),
    ("2 free; 0 1 1 slow", (2, ((0, 1, 1, "slow"),), 0, "free")),
    ("2 way 1; 1 6 4 plain", (2, ((1, 6, 4, "plain"),), 2, "way")),
    ("8 free 1 2 3 4 5 6 7; 7 6 4 slow; 0 1 1 plain; 3 4 2 hasty",
     (8, ((7, 6, 4, "slow"), (0, 1, 1, "plain"), (3, 4, 2, "hasty")), 254, "free")),
    ("3 free 2; 1 2 3 hasty; 1 2 3 hasty", (3, ((1, 2, 3, "hasty"), (1, 2, 3, "hasty")), 4, "free")),
]


def many_houses():
    lifts = [(start, room, turns, kind) for start in (0, 1) for room in (1, 6) for turns in (1, 4) for kind in KINDS]
    rows = [(lift,) for lift in lifts] + [tuple(lifts[k:k + 2]) for k in range(5)] + [tuple(lifts[7:10])]
    turn = itertools.cycle(rows)
    for floors in range(2, 9):
        for locked in range(0, 2 ** floors, 2):
            for sort in SORTS:
                yield (floors, next(turn), locked, sort)


def is_plain_house(house):
    if type(house) is not tuple or [type(part) for part in house] != [int, tuple, int, str]:
        return False
    return all(type(lift) is tuple and [type(part) for part in lift] == [int, int, int, str] for lift in house[1])


class Making(unittest.TestCase):
    def assertMade(self, floors, lifts, locked, sort):
        house = made_house(floors, lifts, locked, sort)
        self.assertTrue(is_plain_house(house), house)
        self.assertEqual(house, (floors, tuple(lifts), locked, sort))

    def assertRefused(self, floors, lifts, locked, sort):
        with self.assertRaises(NoHouse) as taken:
            made_house(floors, lifts, locked, sort)
        self.assertIs(type(taken.exception), NoHouse)

    def test_of_a_list_and_of_a_tuple_of_lifts(self):
        for floors, lifts, locked, sort in many_houses():
            self.assertMade(floors, lifts, locked, sort)
            self.assertMade(floors, list(lifts), locked, sort)

    def test_floors(self):
        for floors in range(2, 9):
            self.assertMade(floors, [LIFT], 0, "free")
        for floors in (1, 9, 0, -1, -2, -8, 10, 16, 10 ** 9, GREAT, -GREAT):
            self.assertRefused(floors, [LIFT], 0, "free")

    def test_the_number_of_lifts(self):
        for many in (1, 2, 3):
            self.assertMade(4, [LIFT] * many, 0, "free")
            self.assertMade(4, (LIFT,) * many, 0, "free")
        for many in (0, 4, 5, 1200):
            self.assertRefused(4, [LIFT] * many, 0, "free")
            self.assertRefused(4, (LIFT,) * many, 0, "free")

    def assertLiftRefused(self, floors, lift):
        for place in range(3):
            lifts = [LIFT] * 3
            lifts[place] = lift
            self.assertRefused(floors, lifts, 0, "way")
        self.assertRefused(floors, (lift,), 0, "free")

    def test_the_start(self):
        for floors in range(2, 9):
            for start in range(floors):
                self.assertMade(floors, [LIFT, (start, 1, 1, "plain")], 0, "free")
            for start in (-1, floors, -floors, floors + 1, GREAT, -GREAT):
                self.assertLiftRefused(floors, (start, 1, 1, "plain"))

    def test_the_room(self):
        for room in range(1, 7):
            self.assertMade(5, [LIFT, (0, room, 1, "plain")], 0, "free")
        for room in (0, 7, -1, -6, 8, GREAT, -GREAT):
            self.assertLiftRefused(5, (0, room, 1, "plain"))

    def test_the_turns(self):
        for turns in range(1, 5):
            self.assertMade(5, [LIFT, (0, 1, turns, "plain")], 0, "free")
        for turns in (0, 5, -1, -4, 6, GREAT, -GREAT):
            self.assertLiftRefused(5, (0, 1, turns, "plain"))

    def test_the_kind(self):
        for kind in KINDS:
            self.assertMade(5, [LIFT, (0, 1, 1, kind)], 0, "free")
        for kind in ("", "Plain", "plai", "plainn", "plain ", " slow", "hast", "slow\n", "free", "way", "plain hasty"):
            self.assertLiftRefused(5, (0, 1, 1, kind))

    def test_the_sort(self):
        for sort in SORTS:
            self.assertMade(5, [LIFT], 0, sort)
        for sort in ("", "Free", "fre", "freee", "wa", "ways", "way ", " way", "way\n", "plain", "free way", "r"):
            self.assertRefused(5, [LIFT], 0, sort)

    def test_the_locked_floors(self):
        for floors in range(2, 9):
            for locked in range(-20, 2 ** floors + 20):
                if 0 <= locked < 2 ** floors and locked % 2 == 0:
                    self.assertMade(floors, [LIFT], locked, "way")
                else:
                    self.assertRefused(floors, [LIFT], locked, "way")
            for locked in (1, -1, -2, 2 ** floors, 2 ** floors + 2, 2 ** 199, 2 ** 200, GREAT, -GREAT):
                self.assertRefused(floors, [LIFT], locked, "free")

    def test_several_faults_at_once(self):
        self.assertRefused(0, [], -1, "")
        self.assertRefused(GREAT, [(GREAT, GREAT, GREAT, "")] * 9, GREAT, "none")
        self.assertRefused(-1, [LIFT], 1, "free")

    def test_what_was_handed_in_stays(self):
        for lifts in ([LIFT], [LIFT, (3, 2, 2, "slow")], [LIFT] * 4, []):
            before = list(lifts)
            try:
                made_house(4, lifts, 2, "way")
            except NoHouse:
                pass
            self.assertEqual(lifts, before)
            self.assertIs(type(lifts), list)

    def test_a_change_afterwards_changes_nothing(self):
        lifts = [LIFT, (3, 2, 2, "slow")]
        house = made_house(4, lifts, 2, "way")
        lifts.append(LIFT)
        lifts[0] = (9, 9, 9, "none")
        self.assertEqual(house, (4, (LIFT, (3, 2, 2, "slow")), 2, "way"))
        lifts.clear()
        self.assertEqual(house, (4, (LIFT, (3, 2, 2, "slow")), 2, "way"))
        self.assertEqual(made_house(4, [LIFT], 2, "way"), (4, (LIFT,), 2, "way"))


class Writing(unittest.TestCase):
    def test_texts_told_sign_by_sign(self):
        for text, house in WRITTEN:
            self.assertEqual(shown_house(house), text)
            self.assertIs(type(shown_house(house)), str)

    def test_every_house_is_written_as_its_text(self):
        for house in many_houses():
            self.assertEqual(expected_house(shown_house(house)), house)

    def test_what_is_written_is_read_as_the_same(self):
        for house in many_houses():
            self.assertEqual(read_house(shown_house(house)), house)
            self.assertEqual(read_house(shown_house(made_house(*house))), house)


class Reading(unittest.TestCase):
    def assertRead(self, text, house):
        told = read_house(text)
        self.assertTrue(is_plain_house(told), text)
        self.assertEqual(told, house, text)
        self.assertEqual(shown_house(told), text)

    def assertRefused(self, text):
        with self.assertRaises(NoHouse, msg=repr(text)) as taken:
            read_house(text)
        self.assertIs(type(taken.exception), NoHouse)

    def test_texts_that_write_a_house(self):
        for text, house in WRITTEN:
            self.assertRead(text, house)

    def test_texts_off_by_one_sign(self):
        read = 0
        for text, house in WRITTEN:
            for other in off_by_one_sign(text):
                expected = expected_house(other)
                if expected is None:
                    self.assertRefused(other)
                else:
                    self.assertRead(other, expected)
                    read += 1
        self.assertGreater(read, 50)

    def test_blanks(self):
        for text in ("5  way; 0 2 1 plain", " 5 way; 0 2 1 plain", "5 way ; 0 2 1 plain", "5 way;  0 2 1 plain"):
            self.assertRefused(text)
        for text in ("5 way; 0 2 1 plain ", "5 way;0 2 1 plain", "5way; 0 2 1 plain", "5 way; 0 21 plain"):
            self.assertRefused(text)
        for text in ("5 way; 0 2 1plain", "5 way 3  4; 0 2 1 plain", "5 way\n; 0 2 1 plain", "5 way; 0 2 1 plain\n"):
            self.assertRefused(text)
        for text in ("5\tway; 0 2 1 plain", "5 way; 0 2 1 plain;", "5 way; 0 2 1 plain; ", "; 5 way; 0 2 1 plain"):
            self.assertRefused(text)

    def test_numbers(self):
        for text in ("05 way; 0 2 1 plain", "5 way; 00 2 1 plain", "5 way; 0 02 1 plain", "5 way; 0 2 01 plain"):
            self.assertRefused(text)
        for text in ("5 way 03; 0 2 1 plain", "5 way +3; 0 2 1 plain", "5 way -3; 0 2 1 plain", "5 way; -0 2 1 plain"):
            self.assertRefused(text)
        for text in ("5 way x; 0 2 1 plain", "x way; 0 2 1 plain", "5 way; x 2 1 plain", "5 way 1_; 0 2 1 plain"):
            self.assertRefused(text)

    def test_great_numbers(self):
        for number in ("99", "200", "999999999", "1000000000", "9" * 1000):
            self.assertRefused(number + " way; 0 2 1 plain")
            self.assertRefused("5 way " + number + "; 0 2 1 plain")
            self.assertRefused(number + " way " + number + "; 0 2 1 plain")
            for lift in ("{} 2 1 plain", "0 {} 1 plain", "0 2 {} plain"):
                self.assertRefused("5 way; " + lift.replace("{}", number))

    def test_locked_floors(self):
        self.assertRead("5 way 1 2 3 4; 0 2 1 plain", (5, ((0, 2, 1, "plain"),), 30, "way"))
        for locked in ("4 3", "3 3", "1 3 2", "1 2 2", "0", "0 1", "1 0", "5", "1 5", "4 5", "7", "8"):
            self.assertRefused("5 way " + locked + "; 0 2 1 plain")

    def test_parts_too_many_or_too_few(self):
        lift = "; 0 2 1 plain"
        for many in (1, 2, 3):
            self.assertRead("5 way" + lift * many, (5, ((0, 2, 1, "plain"),) * many, 0, "way"))
        for text in ("", " ", ";", "; ", "5", "way", "5 way", "5" + lift, "way" + lift, lift, lift[2:]):
            self.assertRefused(text)
        self.assertRefused("5 way" + lift * 4)
        for part in ("0 2 1", "0 2 plain", "2 1", "plain", "", "0 2 1 plain plain", "0 2 1 1 plain", "0 2 1 plain 1"):
            self.assertRefused("5 way; " + part)
            self.assertRefused("5 way" + lift + "; " + part)
        for text in ("5 5 way" + lift, "5 way way" + lift, "5 free way" + lift, "5 3 way" + lift, "way 5" + lift):
            self.assertRefused(text)

    def test_bounds(self):
        for text in ("1 way; 0 2 1 plain", "9 way; 0 2 1 plain", "0 way; 0 2 1 plain", "5 way; 5 2 1 plain"):
            self.assertRefused(text)
        for text in ("5 way; 0 0 1 plain", "5 way; 0 7 1 plain", "5 way; 0 2 0 plain", "5 way; 0 2 5 plain"):
            self.assertRefused(text)
        for text in ("5 Way; 0 2 1 plain", "5 ; 0 2 1 plain", "5 way; 0 2 1 ", "5 way; 0 2 1 fast"):
            self.assertRefused(text)

    def test_long_texts(self):
        for text in (" " * 2000, "; " * 1000, "5 way" + " 1" * 990, "5 way" + "; 0 2 1 plain" * 150, "x" * 2000):
            self.assertRefused(text)

    def test_nothing_hangs_on_what_was_asked_before(self):
        for text, house in WRITTEN + WRITTEN[::-1]:
            self.assertRefused(text + ";")
            self.assertRead(text, house)


if __name__ == "__main__":
    unittest.main()
