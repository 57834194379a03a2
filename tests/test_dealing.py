"""Point 17: which lifts serve, the five dealers, and dealers read from texts."""

import copy
import itertools
import re
import unittest

from helpers import off_by_one_sign
from liftcourt.dealing import dealer_of, serving
from liftcourt.errors import CourtError, NoDeal
from liftcourt.houses import made_house
from restated import expected_deal, expected_serving

HUGE = 10 ** 60 - 1
PLAIN = ("near", "least", "turns")


def house_of(lifts, floors=3):
    return made_house(floors, [(0, 6, 1, "plain")] * lifts, 0, "free")


def cabin(place=0, marks=0, many=0, first=100):
    return (place, 1 if place % 2 else 0, 0, marks, tuple((first + k, 0) for k in range(many)))


def cabins_of(marks, places=(0, 0, 0), many=(0, 0, 0)):
    return [cabin(places[k], mark, many[k], 100 + 10 * k) for k, mark in enumerate(marks)]


def rider(start=0, goal=1, tag=7):
    return (tag, start, goal, -1)


class Case(unittest.TestCase):
    def assertDeals(self, text, house, cabins, waiting, asked, last, expected):
        told = dealer_of(text, house)(cabins, waiting, asked, last)
        self.assertIs(type(told), tuple)
        self.assertEqual([type(part) for part in told], [int, int])
        self.assertEqual(told, expected, (text, cabins, waiting, asked, last))


class Serving(unittest.TestCase):
    def test_each_marks(self):
        self.assertEqual([serving([cabin(0, marks)]) for marks in range(4)], [[0], [], [], []])
        for lifts in (1, 2, 3):
            for marks in itertools.product(range(4), repeat=lifts):
                expected = [number for number, mark in enumerate(marks) if mark == 0]
                for handed in (cabins_of(marks), tuple(cabins_of(marks))):
                    told = serving(handed)
                    self.assertIs(type(told), list)
                    self.assertEqual([type(number) for number in told], [int] * len(told))
                    self.assertEqual(told, expected)
                    self.assertEqual(told, expected_serving(handed))

    def test_nothing_but_marks_is_looked_at(self):
        for light, door, aboard in itertools.product((-1, 0, 1), (0, 4), ((), ((1, 0),) * 6)):
            self.assertEqual(serving([(4, light, door, 0, aboard), (3, 1, 0, 2, aboard)]), [0])

    def test_what_is_told_is_the_askers_own(self):
        handed = cabins_of((0, 0))
        before = copy.deepcopy(handed)
        serving(handed).append(9)
        self.assertEqual(serving(handed), [0, 1])
        self.assertEqual(handed, before)


class Near(Case):
    def assertNear(self, marks, places, start, lift):
        house = house_of(len(marks), 8)
        for last in range(len(marks)):
            self.assertDeals("near", house, cabins_of(marks, places), [rider(start)], rider(start), last, (lift, last))

    def test_the_nearest_one(self):
        self.assertNear((0,), (14,), 0, 0)
        self.assertNear((0, 0, 0), (0, 6, 14), 0, 0)
        self.assertNear((0, 0, 0), (0, 6, 14), 3, 1)
        self.assertNear((0, 0, 0), (0, 6, 14), 7, 2)
        self.assertNear((0, 0, 0), (0, 6, 14), 2, 1)

    def test_half_a_floor_counts(self):
        self.assertNear((0, 0), (7, 6), 3, 1)
        self.assertNear((0, 0), (6, 7), 4, 1)
        self.assertNear((0, 0), (2, 3), 2, 1)
        self.assertNear((0, 0), (3, 2), 2, 0)

    def test_of_several_alike_near_the_least_number(self):
        self.assertNear((0, 0, 0), (4, 4, 4), 2, 0)
        self.assertNear((0, 0, 0), (8, 6, 2), 2, 1)
        self.assertNear((0, 0, 0), (6, 2, 2), 2, 0)
        self.assertNear((0, 0, 0), (8, 5, 3), 2, 1)
        self.assertNear((1, 0, 0), (4, 3, 5), 2, 1)

    def test_only_serving_ones(self):
        for mark in (1, 2, 3):
            self.assertNear((mark, 0, 0), (4, 0, 14), 2, 1)
            self.assertNear((0, mark, 0), (0, 4, 14), 2, 0)
            self.assertNear((mark, mark, 0), (4, 4, 14), 2, 2)
            self.assertNear((mark, mark, mark), (4, 4, 14), 2, -1)
            self.assertNear((mark,), (4,), 2, -1)

    def test_the_goal_is_not_looked_at(self):
        self.assertDeals("near", house_of(2, 8), cabins_of((0, 0), (0, 14)), [rider(0, 7)], rider(0, 7), 1, (0, 1))


class Least(Case):
    def assertLeast(self, marks, many, dealt, lift):
        waiting = [(k, 0, 1, number) for k, number in enumerate(dealt)] + [rider(0, 1, 99)]
        for last in range(len(marks)):
            cabins = cabins_of(marks, many=many)
            self.assertDeals("least", house_of(len(marks)), cabins, waiting, rider(0, 1, 99), last, (lift, last))

    def test_the_fewest_aboard(self):
        self.assertLeast((0,), (6,), [], 0)
        self.assertLeast((0, 0, 0), (1, 0, 2), [], 1)
        self.assertLeast((0, 0, 0), (3, 2, 1), [], 2)
        self.assertLeast((0, 0, 0), (0, 2, 1), [], 0)

    def test_the_fewest_that_wait(self):
        self.assertLeast((0, 0, 0), (0, 0, 0), [0, 2, 2], 1)
        self.assertLeast((0, 0, 0), (0, 0, 0), [0, 1], 2)
        self.assertLeast((0, 0, 0), (0, 0, 0), [1, 1, 2], 0)

    def test_both_together(self):
        self.assertLeast((0, 0), (2, 0), [1], 1)
        self.assertLeast((0, 0), (2, 0), [1, 1, 1], 0)
        self.assertLeast((0, 0), (0, 1), [0, 0], 1)
        self.assertLeast((0, 0, 0), (1, 1, 1), [0, 1], 2)

    def test_who_is_dealt_to_none_counts_nowhere(self):
        self.assertLeast((0, 0), (1, 0), [-1, -1, -1], 1)
        self.assertLeast((0, 0, 0), (0, 0, 1), [-1] * 9, 0)

    def test_of_several_alike_full_the_least_number(self):
        self.assertLeast((0, 0, 0), (0, 0, 0), [], 0)
        self.assertLeast((0, 0, 0), (2, 1, 0), [2], 1)
        self.assertLeast((0, 0, 0), (2, 0, 1), [0, 1, 1, 2, 2], 1)
        self.assertLeast((1, 0, 0), (0, 3, 3), [], 1)

    def test_only_serving_ones(self):
        for mark in (1, 2, 3):
            self.assertLeast((mark, 0, 0), (0, 2, 1), [], 2)
            self.assertLeast((0, mark, mark), (6, 0, 0), [0, 0], 0)
            self.assertLeast((mark, mark, mark), (0, 1, 2), [], -1)


class Turns(Case):
    def assertTurns(self, marks, last, expected):
        cabins = cabins_of(marks)
        self.assertDeals("turns", house_of(len(marks)), cabins, [rider()], rider(), last, expected)

    def test_all_serving(self):
        self.assertTurns((0,), 0, (0, 0))
        self.assertTurns((0, 0), 0, (1, 1))
        self.assertTurns((0, 0), 1, (0, 0))
        self.assertTurns((0, 0, 0), 0, (1, 1))
        self.assertTurns((0, 0, 0), 1, (2, 2))
        self.assertTurns((0, 0, 0), 2, (0, 0))

    def test_some_serving(self):
        for mark in (1, 2, 3):
            self.assertTurns((0, mark, 0), 0, (2, 2))
            self.assertTurns((0, 0, mark), 1, (0, 0))
            self.assertTurns((mark, 0, 0), 2, (1, 1))
            self.assertTurns((0, mark, mark), 0, (0, 0))
            self.assertTurns((mark, 0, mark), 1, (1, 1))
            self.assertTurns((mark, mark, 0), 2, (2, 2))
            self.assertTurns((mark, mark, 0), 0, (2, 2))
            self.assertTurns((0, mark, mark), 1, (0, 0))

    def test_none_serving_keeps_the_last(self):
        for marks in ((1,), (2, 3), (1, 2, 3)):
            for last in range(len(marks)):
                self.assertTurns(marks, last, (-1, last))

    def test_a_row_of_askings_goes_round(self):
        told = []
        dealer = dealer_of("turns", house_of(3))
        last = 2
        for tag in range(7):
            lift, last = dealer(cabins_of((0, 0, 0)), [rider()], rider(0, 1, tag), last)
            told.append(lift)
        self.assertEqual(told, [0, 1, 2, 0, 1, 2, 0])

    def test_nothing_hangs_on_what_was_asked_before(self):
        dealer = dealer_of("turns", house_of(3))
        for last, lift in ((0, 1), (0, 1), (2, 0), (0, 1), (1, 2), (1, 2)):
            self.assertEqual(dealer(cabins_of((0, 0, 0)), [rider()], rider(), last), (lift, lift))


class Zone(Case):
    def assertZone(self, text, marks, start, lift):
        house = house_of(len(marks), len(text.split()) - 1)
        asked = rider(start, 1 if start == 0 else 0)
        for last in range(len(marks)):
            self.assertDeals(text, house, cabins_of(marks), [asked], asked, last, (lift, last))

    def test_the_lift_of_the_start(self):
        for start, lift in enumerate((2, 0, 1, 1, 2, 0, 0, 2)):
            self.assertZone("zone 2 0 1 1 2 0 0 2", (0, 0, 0), start, lift)
        self.assertZone("zone 0 0", (0,), 0, 0)
        self.assertZone("zone 0 1", (0, 0), 1, 1)

    def test_the_first_serving_one_behind_it(self):
        for mark in (1, 2, 3):
            self.assertZone("zone 0 1 2", (mark, 0, 0), 0, 1)
            self.assertZone("zone 0 1 2", (mark, mark, 0), 0, 2)
            self.assertZone("zone 0 1 2", (0, mark, 0), 1, 2)
            self.assertZone("zone 0 1 2", (0, mark, mark), 1, 0)
            self.assertZone("zone 0 1 2", (0, 0, mark), 2, 0)
            self.assertZone("zone 0 1 2", (mark, 0, mark), 2, 1)
            self.assertZone("zone 0 1 2", (mark, 0, mark), 1, 1)

    def test_none_serving(self):
        for start in range(3):
            self.assertZone("zone 0 1 2", (1, 2, 3), start, -1)


class Fixed(Case):
    def assertFixed(self, text, marks, tag, lift):
        asked = rider(0, 1, tag)
        for last in range(len(marks)):
            self.assertDeals(text, house_of(len(marks)), cabins_of(marks), [asked], asked, last, (lift, last))

    def test_the_number_at_the_tags_place(self):
        for tag in range(30):
            self.assertFixed("fixed 2", (0, 0, 0), tag, 2)
            self.assertFixed("fixed 1 0", (0, 0), tag, (1, 0)[tag % 2])
            self.assertFixed("fixed 2 0 1", (0, 0, 0), tag, (2, 0, 1)[tag % 3])
            self.assertFixed("fixed 0 1 2 2 1 0 0 2 1", (0, 0, 0), tag, (0, 1, 2, 2, 1, 0, 0, 2, 1)[tag % 9])

    def test_tags_of_sixty_figures(self):
        self.assertFixed("fixed 0 1 2 0 1 2 1", (0, 0, 0), HUGE, (0, 1, 2, 0, 1, 2, 1)[HUGE % 7])
        self.assertFixed("fixed 0 1 2 0 1 2 1", (0, 0, 0), HUGE - 1, (0, 1, 2, 0, 1, 2, 1)[(HUGE - 1) % 7])

    def test_the_first_serving_one_behind_it(self):
        for mark in (1, 2, 3):
            self.assertFixed("fixed 0 1 2", (mark, 0, 0), 0, 1)
            self.assertFixed("fixed 0 1 2", (0, mark, mark), 1, 0)
            self.assertFixed("fixed 0 1 2", (0, mark, 0), 4, 2)
            self.assertFixed("fixed 0 1 2", (0, 0, mark), 5, 0)
            self.assertFixed("fixed 0 1 2", (mark, 0, mark), 2, 1)
            self.assertFixed("fixed 2", (mark, mark, mark), 3, -1)


class All(Case):
    def test_against_the_points_words_over_many(self):
        texts = {
            1: PLAIN + ("zone 0 0 0", "fixed 0", "fixed 0 0 0 0 0 0 0 0 0"),
            2: PLAIN + ("zone 0 1 1", "zone 1 0 0", "fixed 1", "fixed 0 1 1"),
            3: PLAIN + ("zone 0 2 1", "zone 1 1 0", "fixed 2", "fixed 2 0 1 1"),
        }
        for lifts in (1, 2, 3):
            house = house_of(lifts)
            groups = list(itertools.product((0, 1, 2, 4), repeat=lifts))
            for marks in itertools.product((0, 0, 3), repeat=lifts):
                for k, places in enumerate(groups):
                    start, last, tag = k % 3, k % lifts, 1000 + k % 7
                    asked = rider(start, (start + 1) % 3, tag)
                    waiting = [(j, 0, 1, (-1, 0, lifts - 1, 0)[(k + j) % 4]) for j in range(k % 4)]
                    waiting.insert(k % (len(waiting) + 1), asked)
                    cabins = cabins_of(marks, places, [(k + j) % 3 for j in range(lifts)])
                    for text in texts[lifts]:
                        expected = expected_deal(text, cabins, waiting, asked, last)
                        self.assertDeals(text, house, cabins, waiting, asked, last, expected)

    def test_lists_and_tuples_alike_and_nothing_is_changed(self):
        waiting = [(1, 0, 1, 0), rider(2, 0), (2, 1, 0, 2), (3, 1, 2, -1)]
        cabins = cabins_of((0, 2, 0), (4, 2, 0), (1, 0, 2))
        before = copy.deepcopy((cabins, waiting))
        for text in PLAIN + ("zone 0 2 1", "fixed 1 0"):
            expected = expected_deal(text, cabins, waiting, rider(2, 0), 1)
            for some in (list, tuple):
                for other in (list, tuple):
                    self.assertDeals(text, house_of(3), some(cabins), other(waiting), rider(2, 0), 1, expected)
            dealer_of(text, house_of(3))(cabins, waiting, rider(2, 0), 1)
            self.assertEqual((cabins, waiting), before)

    def test_two_dealers_do_not_hang_on_one_another(self):
        first = dealer_of("fixed 0 1", house_of(2))
        other = dealer_of("fixed 1 0", house_of(2))
        args = (cabins_of((0, 0)), [rider(0, 1, 4)], rider(0, 1, 4), 1)
        self.assertEqual([first(*args), other(*args), first(*args)], [(0, 1), (1, 1), (0, 1)])

    def test_many_that_wait(self):
        waiting = [(HUGE - k, 0, 1, k % 3) for k in range(1199)] + [rider()]
        self.assertDeals("least", house_of(3), cabins_of((0, 0, 0)), waiting, rider(), 0, (2, 0))
        self.assertDeals("near", house_of(3), cabins_of((1, 0, 0)), waiting, rider(), 0, (1, 0))


class Texts(unittest.TestCase):
    def assertNoDeal(self, text, house):
        with self.assertRaises(NoDeal) as caught:
            dealer_of(text, house)
        self.assertIs(type(caught.exception), NoDeal)
        self.assertIsInstance(caught.exception, CourtError)

    def assertRead(self, text, house):
        lifts, floors = len(house[1]), house[0]
        dealer = dealer_of(text, house)
        for start in range(floors):
            for marks in ((0,) * lifts, (0,) * (lifts - 1) + (1,), (2,) * lifts):
                asked = (start + 5, start, (start + 1) % floors, -1)
                cabins = cabins_of(marks, (2, 0, 1), (1, 0, 0))
                self.assertEqual(dealer(cabins, [asked], asked, 0), expected_deal(text, cabins, [asked], asked, 0))

    def pattern(self, house):
        lift = "( [%s])" % "012"[:len(house[1])]
        return re.compile("near|least|turns|zone" + lift + "{%d}|fixed" % house[0] + lift + "{1,9}")

    def test_texts_of_each_dealer(self):
        for floors in range(2, 9):
            for lifts in (1, 2, 3):
                house = house_of(lifts, floors)
                for text in PLAIN:
                    self.assertRead(text, house)
                self.assertRead("zone" + " 0" * floors, house)
                self.assertRead("zone" + " 0" * (floors - 1) + f" {lifts - 1}", house)
                self.assertRead(f"zone {lifts - 1}" + " 0" * (floors - 1), house)
                for many in range(1, 10):
                    self.assertRead("fixed" + f" {lifts - 1}" * many, house)
                    self.assertRead("fixed" + " 0" * many, house)

    def test_a_number_too_many_or_too_few(self):
        for floors in range(2, 9):
            house = house_of(2, floors)
            for many in (0, 1, floors - 2, floors - 1, floors + 1, floors + 2, 9, 999):
                if many != floors:
                    self.assertNoDeal("zone" + " 1" * many, house)
            for many in (0, 10, 11, 18, 99, 997):
                self.assertNoDeal("fixed" + " 1" * many, house)
            for text in PLAIN:
                self.assertNoDeal(text + " 0", house)
                self.assertNoDeal(text + " 0" * floors, house)

    def test_lifts_that_the_house_has_not(self):
        for lifts in (1, 2, 3):
            house = house_of(lifts)
            for wrong in (str(lifts), str(lifts + 1), "9", "10", "999999999", "1000000000", "9" * 60, "-1", "00", "+0"):
                for text in ("zone W 0 0", "zone 0 W 0", "zone 0 0 W", "fixed W", "fixed 0 W", "fixed W 0 0"):
                    self.assertNoDeal(text.replace("W", wrong), house)

    def test_other_texts(self):
        for text in (
            "", " ", "\n", "near ", " near", "near\n", "near near", "nearest", "Near", "NEAR", "least ", "turns ",
            "turn", "zones 0 0 0", "zone", "zone ", "zone  0 0 0", "zone 0  0 0", "zone 0 0 0 ", " zone 0 0 0",
            "zone\n0 0 0", "zone 0,0,0", "zone 0 0 x", "zone 0 0 0x0", "zone 0 0 1_0", "fixed", "fixed ", "fixed  0",
            "fixed 0 ", " fixed 0", "fixed 0\n", "fixed x", "fixed0", "sweep", "none", "near least", "x" * 2000,
            " " * 2000, "fixed " + "0" * 1994,
        ):
            self.assertNoDeal(text, house_of(2))

    def test_texts_off_by_one_sign(self):
        for house in (house_of(1, 2), house_of(2, 3), house_of(3, 3)):
            pattern = self.pattern(house)
            highest = str(len(house[1]) - 1)
            texts = PLAIN + ("zone" + " 0" * (house[0] - 1) + " " + highest, "fixed 0 " + highest)
            for text in texts:
                for other in off_by_one_sign(text):
                    if pattern.fullmatch(other):
                        self.assertRead(other, house)
                    else:
                        self.assertNoDeal(other, house)

    def test_houses_with_locked_floors_and_of_both_sorts(self):
        for sort in ("free", "way"):
            house = made_house(3, [(2, 1, 4, "slow"), (0, 1, 1, "hasty")], 6, sort)
            for text in PLAIN + ("zone 1 0 1", "fixed 1 0"):
                self.assertRead(text, house)
            self.assertNoDeal("zone 0 1", house)
            self.assertNoDeal("fixed 2", house)


if __name__ == "__main__":
    unittest.main()
