"""Points 35 to 37: the waits in all of a dealing, the least waits, what dealers lack."""

import copy
import random
import unittest

from chances import drawn_house, drawn_ride
from court_case import HUGE
from liftcourt.errors import CourtError, NoDeal, NoFloor, NoRide
from liftcourt.houses import read_house
from liftcourt.least import dealt, lacks, least_of
from liftcourt.rules import Rule, Table, rule_of
from restated_least import all_dealings, all_waits, fixed_text, waits_by

ONE = read_house("3 free; 0 1 1 plain")
LOCKED = read_house("3 free 2; 0 2 1 plain; 2 1 2 slow")
PAIR = read_house("4 way; 0 1 1 plain; 3 2 1 hasty")
TRIO = read_house("5 free 3; 0 1 1 plain; 4 3 2 hasty; 2 2 1 slow")
PLAIN_RULES = ("sweep", "homing", "nearest", "shuttle")
PLAIN_DEALERS = ["near", "least", "turns"]
SWEEP = Rule()


class Askew(Rule):
    """A rule of the asker's own."""

    def word(self, seen):
        floor, light, here, up, down = seen
        if here == 2:
            return "o"
        return "u" if up > down else "d" if down else "xs"[light == 0]


class Mute(Rule):
    """A rule that is not to be asked."""

    def word(self, seen):
        raise AssertionError("the rule was asked")


def drawn_row(source, house, many, turns):
    cames = sorted(source.randrange(source.choice((1, 3, turns))) for _ in range(many))
    return [(min(came, turns - 1), *drawn_ride(source, house[0])) for came in cames]


def drawn_rule(source, house):
    if source.random() < 0.3:
        return Table("".join(source.choice("oxuds") for _ in range(36)))
    return Askew() if source.random() < 0.1 else rule_of(source.choice(PLAIN_RULES), house[0])


class LeastCase(unittest.TestCase):
    def assertDealt(self, house, rule, riders, dealing, turns, waits):
        for handed in (tuple(dealing), list(dealing)):
            before = copy.deepcopy((riders, handed))
            told = dealt(house, rule, riders, handed, turns)
            self.assertEqual((riders, handed), before)
            self.assertIs(type(told), int)
            self.assertEqual(told, waits, (house, riders, dealing, turns))
        self.assertEqual(waits_by(house, rule, riders, fixed_text(dealing), turns), waits)

    def assertLeast(self, house, rule, riders, turns):
        """What is told, once it is held against all dealings."""
        before = list(riders)
        told = least_of(house, rule, riders, turns)
        self.assertEqual(riders, before)
        self.assertIs(type(told), tuple)
        self.assertEqual([type(part) for part in told], [int, tuple, list])
        total, dealing, cuts = told
        waits = all_waits(house, rule, riders, turns)
        self.assertEqual(total, min(waits.values()), (house, riders, turns))
        self.assertEqual(waits[dealing], total)
        self.assertEqual([type(lift) for lift in dealing], [int] * len(riders))
        self.assertCuts(waits, total, dealing, cuts)
        return told

    def assertCuts(self, waits, total, dealing, cuts):
        for cut in cuts:
            self.assertIs(type(cut), tuple)
            self.assertEqual([type(part) for part in cut], [tuple, int])
            self.assertEqual([type(lift) for lift in cut[0]], [int] * len(cut[0]))
            self.assertLessEqual(len(cut[0]), len(dealing))
            self.assertGreaterEqual(cut[1], total)
        for other, there in waits.items():
            bounds = [bound for front, bound in cuts if other[:len(front)] == front]
            self.assertEqual(len(bounds), 0 if other == dealing else 1, (other, cuts))
            self.assertTrue(all(bound <= there for bound in bounds))

    def assertLacks(self, house, rule, riders, turns, texts):
        before = copy.deepcopy((riders, texts))
        told = lacks(house, rule, riders, turns, texts)
        self.assertEqual((riders, texts), before)
        self.assertIs(type(told), list)
        self.assertEqual([type(number) for number in told], [int] * len(texts))
        least = min(all_waits(house, rule, riders, turns).values())
        self.assertEqual(told, [waits_by(house, rule, riders, text, turns) - least for text in texts])
        self.assertTrue(all(number >= 0 for number in told))
        return told

    def assertRaisesJust(self, error, floor, call, *handed):
        before = copy.deepcopy(handed[2:])
        with self.assertRaises(CourtError) as caught:
            call(*handed)
        self.assertIs(type(caught.exception), error, handed)
        if error is NoFloor:
            self.assertIs(type(caught.exception.floor), int)
            self.assertTrue(caught.exception.floor == floor, handed)
        self.assertEqual(handed[2:], before)


class Dealt(LeastCase):
    def test_one_rider(self):
        # The door opens, in, two halves of a floor, the door opens, out.
        self.assertDealt(ONE, SWEEP, [(0, 0, 1)], [0], 10, 5)
        self.assertDealt(ONE, SWEEP, [(1, 0, 1)], [0], 10, 5)
        self.assertDealt(ONE, SWEEP, [(0, 0, 2)], [0], 10, 7)

    def test_to_the_days_end(self):
        # Out in turn 5 where there is such a turn; else still aboard, or waiting.
        for turns in range(1, 9):
            self.assertDealt(ONE, SWEEP, [(0, 0, 1)], [0], turns, min(turns, 5))
        self.assertDealt(ONE, SWEEP, [(0, 0, 1), (0, 0, 1)], [0, 0], 4, 8)
        self.assertDealt(ONE, SWEEP, [(1, 0, 1), (2, 0, 1)], [0, 0], 10, 5 + 8)
        self.assertDealt(ONE, Table("s" * 36), [(0, 1, 0), (3, 0, 1), (99, 0, 1)], [0, 0, 0], 100, 100 + 97 + 1)

    def test_several_in_one_turn_in_the_rows_order(self):
        # Room for one: the first of the row is let in.
        self.assertDealt(ONE, SWEEP, [(0, 0, 1), (0, 0, 2)], [0, 0], 8, 5 + 8)
        self.assertDealt(ONE, SWEEP, [(0, 0, 2), (0, 0, 1)], [0, 0], 8, 7 + 8)

    def test_a_locked_goal_counts_nothing_whatever_the_lift(self):
        for lift in (0, 1):
            self.assertDealt(LOCKED, SWEEP, [(0, 0, 2)], [lift], 20, 0)
            self.assertDealt(LOCKED, SWEEP, [(0, 0, 1), (0, 0, 2)], [0, lift], 20, 5)
            self.assertDealt(LOCKED, SWEEP, [(0, 0, 2), (0, 0, 1)], [lift, 0], 20, 5)

    def test_the_lift_that_the_dealing_tells(self):
        self.assertDealt(PAIR, SWEEP, [(0, 0, 1)], [0], 30, 5)
        self.assertDealt(PAIR, SWEEP, [(0, 0, 1)], [1], 30, 11)
        self.assertDealt(PAIR, SWEEP, [(0, 3, 2)], [0], 30, 11)
        self.assertDealt(PAIR, SWEEP, [(0, 3, 2)], [1], 30, 5)
        self.assertDealt(PAIR, SWEEP, [(0, 0, 1), (0, 3, 2)], [0, 1], 30, 10)
        self.assertDealt(PAIR, SWEEP, [(0, 3, 2), (0, 0, 1)], [0, 1], 30, 22)

    def test_all_dealings_of_some_rows(self):
        row = [(0, 0, 2), (0, 4, 1), (1, 2, 3), (5, 1, 0)]
        for house, riders in ((ONE, [(0, 0, 1), (2, 2, 1)]), (PAIR, [(0, 3, 1), (0, 0, 2), (4, 3, 0)]), (TRIO, row)):
            for rule in (SWEEP, rule_of("nearest", house[0]), Askew()):
                for turns in (6, 25):
                    for dealing in all_dealings(house, riders):
                        waits = waits_by(house, rule, riders, fixed_text(dealing), turns)
                        self.assertDealt(house, rule, riders, dealing, turns, waits)

    def test_drawn_rows(self):
        source = random.Random(35)
        lifts = set()
        for _ in range(150):
            house = drawn_house(source)
            turns = source.choice((1, 5, 20, 40, 100))
            rule = drawn_rule(source, house)
            riders = drawn_row(source, house, source.randint(1, 6), turns)
            dealing = [source.randrange(len(house[1])) for _ in riders]
            lifts.add(len(house[1]))
            waits = waits_by(house, rule, riders, fixed_text(dealing), turns)
            self.assertDealt(house, rule, riders, dealing, turns, waits)
        self.assertEqual(lifts, {1, 2, 3})

    def test_somewhat_beyond_the_bounds(self):
        riders = [(0, 0, 1)] * 12
        self.assertDealt(PAIR, SWEEP, riders, [0, 1] * 6, 120, waits_by(PAIR, SWEEP, riders, "fixed 0 1", 120))
        self.assertEqual(dealt(PAIR, SWEEP, [], (), 10), 0)


class Least(LeastCase):
    def test_by_hand(self):
        self.assertEqual(self.assertLeast(PAIR, SWEEP, [(0, 0, 1), (0, 3, 2)], 30)[:2], (10, (0, 1)))
        self.assertEqual(self.assertLeast(PAIR, SWEEP, [(0, 3, 2), (0, 0, 1)], 30)[:2], (10, (1, 0)))

    def test_one_lift_has_one_dealing(self):
        for many in range(1, 7):
            total, dealing, cuts = self.assertLeast(ONE, SWEEP, [(0, 0, 1)] * many, 50)
            self.assertEqual((dealing, cuts), ((0,) * many, []))

    def test_one_rider(self):
        for start in range(4):
            for goal in range(4):
                if start != goal:
                    self.assertLeast(PAIR, SWEEP, [(0, start, goal)], 30)

    def test_locked_goals(self):
        self.assertEqual(self.assertLeast(LOCKED, SWEEP, [(0, 0, 2), (1, 1, 2)], 30)[0], 0)
        self.assertEqual(self.assertLeast(LOCKED, SWEEP, [(0, 0, 2), (0, 0, 1)], 30)[0], 5)

    def test_all_dealings_alike(self):
        for house in (PAIR, TRIO):
            still = Table("s" * 36)
            self.assertEqual(self.assertLeast(house, still, [(0, 0, 1), (1, 0, 1), (1, 1, 0)], 10)[0], 10 + 9 + 9)

    def test_a_rider_that_helps_another(self):
        # From the middle the lift goes only where tasks lie on both sides: only both riders together are fetched.
        letters = list("s" * 36)
        for light in range(3):
            letters[12 * light + 8:12 * light + 12] = "oooo"
        letters[15], letters[25], letters[1], letters[2] = "uddu"
        house = read_house("3 free; 1 2 1 plain; 1 2 1 plain")
        rule = Table("".join(letters))
        total, dealing, cuts = self.assertLeast(house, rule, [(0, 0, 1), (0, 2, 1)], 40)
        self.assertEqual(dealing[0], dealing[1])
        self.assertLess(total, 80)

    def test_drawn_rows(self):
        source = random.Random(36)
        lifts = set()
        for _ in range(60):
            house = drawn_house(source)
            turns = source.choice((1, 8, 20, 40))
            riders = drawn_row(source, house, source.randint(1, 6 if len(house[1]) < 3 else 4), turns)
            self.assertLeast(house, drawn_rule(source, house), riders, turns)
            lifts.add(len(house[1]))
        self.assertEqual(lifts, {1, 2, 3})

    def test_six_riders_and_three_lifts(self):
        source = random.Random(37)
        for rule in (SWEEP, rule_of("nearest", 5)):
            self.assertLeast(TRIO, rule, drawn_row(source, TRIO, 6, 30), 30)

    def test_a_long_day(self):
        house = read_house("8 way; 0 6 4 slow; 3 6 4 plain; 7 6 4 hasty")
        riders = [(0, 0, 7), (10, 7, 0), (20, 3, 4), (30, 5, 1), (60, 2, 6), (99, 6, 2)]
        total, dealing, cuts = least_of(house, SWEEP, riders, 100)
        self.assertEqual(dealt(house, SWEEP, riders, dealing, 100), total)
        self.assertTrue(all(bound >= total for front, bound in cuts))

    def test_somewhat_beyond_the_bounds(self):
        self.assertLeast(PAIR, SWEEP, [(0, 0, 1), (0, 3, 1), (0, 2, 3), (1, 1, 0), (1, 3, 2), (2, 0, 3), (3, 2, 0)], 20)
        self.assertEqual(least_of(PAIR, SWEEP, [], 10), (0, (), []))
        self.assertLeast(PAIR, SWEEP, [(0, 0, 1), (110, 3, 1)], 120)

    def test_what_is_told_is_the_askers_own(self):
        riders = [(0, 0, 1), (0, 3, 2)]
        told = least_of(PAIR, SWEEP, riders, 30)
        kept = copy.deepcopy(told)
        least_of(PAIR, SWEEP, riders, 30)[2].clear()
        riders.clear()
        self.assertEqual(told, kept)
        self.assertLeast(PAIR, SWEEP, [(0, 0, 1), (0, 3, 2)], 30)


class Lacks(LeastCase):
    def test_by_hand(self):
        # The second lift is far from the one rider: turns deals to lift 0, the first behind the last one.
        self.assertEqual(self.assertLacks(PAIR, SWEEP, [(0, 0, 1)], 30, ["near", "fixed 1", "fixed 0"]), [0, 6, 0])
        self.assertEqual(self.assertLacks(PAIR, SWEEP, [(0, 3, 2)], 30, PLAIN_DEALERS), [0, 6, 6])

    def test_no_text(self):
        self.assertEqual(self.assertLacks(PAIR, SWEEP, [(0, 0, 1)], 30, []), [])

    def test_each_text_in_its_order(self):
        texts = ["turns", "zone 0 0 1 1", "near", "fixed 1 0", "least", "near", "zone 1 1 0 0", "fixed 1 1 0 0 1 0 1"]
        riders = [(0, 0, 1), (0, 3, 2), (2, 1, 3), (9, 2, 0)]
        told = self.assertLacks(PAIR, SWEEP, riders, 40, texts)
        self.assertEqual(self.assertLacks(PAIR, SWEEP, riders, 40, texts[::-1]), told[::-1])
        self.assertGreater(len(set(told)), 2)

    def test_a_fixed_dealer_of_the_told_dealing_lacks_nothing(self):
        source = random.Random(38)
        for _ in range(30):
            house = drawn_house(source)
            riders = drawn_row(source, house, source.randint(1, 5), 30)
            dealing = least_of(house, SWEEP, riders, 30)[1]
            self.assertEqual(lacks(house, SWEEP, riders, 30, [fixed_text(dealing)]), [0])

    def test_drawn_rows(self):
        source = random.Random(39)
        for _ in range(40):
            house = drawn_house(source)
            numbers = [str(source.randrange(len(house[1]))) for _ in range(20)]
            texts = PLAIN_DEALERS + [" ".join(["zone"] + numbers[:house[0]]), " ".join(["fixed"] + numbers[8:12])]
            turns = source.choice((1, 10, 30))
            riders = drawn_row(source, house, source.randint(1, 4), turns)
            self.assertLacks(house, drawn_rule(source, house), riders, turns, texts)


class Refused(LeastCase):
    def assertRowRefused(self, riders, error, floor=None, house=PAIR):
        """By each of the three, and ahead of all else: the rule is not asked."""
        for rule in (SWEEP, Mute()):
            for dealing in ((0,) * len(riders), [1] * len(riders)):
                self.assertRaisesJust(error, floor, dealt, house, rule, riders, dealing, 50)
            self.assertRaisesJust(error, floor, least_of, house, rule, riders, 50)
            for texts in ([], ["near"], PLAIN_DEALERS):
                self.assertRaisesJust(error, floor, lacks, house, rule, riders, 50, texts)

    def test_starts_and_goals(self):
        for floor in (4, -1, 5, 99, -4, HUGE, -HUGE, 10 ** 5000, -(10 ** 5000)):
            self.assertRowRefused([(0, floor, 0)], NoFloor, floor)
            self.assertRowRefused([(0, 0, floor)], NoFloor, floor)
            self.assertRowRefused([(0, floor, floor)], NoFloor, floor)
        for floor in range(4):
            self.assertRowRefused([(0, floor, floor)], NoRide)
        self.assertRowRefused([(0, 7, 9)], NoFloor, 7)

    def test_rider_by_rider(self):
        wrong = {(0, 9, 0): (NoFloor, 9), (0, 0, 8): (NoFloor, 8), (0, 2, 2): (NoRide,), (0, -1, 5): (NoFloor, -1)}
        for one, refusal in wrong.items():
            for other in wrong:
                self.assertRowRefused([one, other], *refusal)
                self.assertRowRefused([(0, 0, 1), one, (0, 3, 2), other], *refusal)
        self.assertRowRefused([(0, 0, 1)] * 5 + [(49, 1, 1)], NoRide)

    def test_the_row_counts_also_where_all_are_barred(self):
        house = read_house("2 free 1; 0 1 1 plain")
        self.assertRowRefused([(0, 0, 1), (0, 1, 1)], NoRide, None, house)
        self.assertRowRefused([(0, 0, 1), (0, 2, 1)], NoFloor, 2, house)

    def test_a_text_that_is_none(self):
        good, bad = [(0, 0, 1)], [(0, 9, 9)]
        for text in ("", "nearest", "near ", "zone 0 1", "fixed", "fixed 2", "zone 0 0 0 2", "fixed 0  1", "fixed 01"):
            for texts in ([text], ["near", text], [text, "near"], ["turns", "least", text, "near"]):
                for riders in (good, bad, [(0, 1, 1)], good + bad):
                    for rule in (SWEEP, Mute()):
                        self.assertRaisesJust(NoDeal, None, lacks, PAIR, rule, riders, 50, texts)

    def test_a_refusal_changes_nothing(self):
        riders = [(0, 0, 1), (0, 3, 2)]
        kept = least_of(PAIR, SWEEP, riders, 30)
        self.assertRowRefused([(0, 0, 1), (0, 3, 3)], NoRide)
        self.assertEqual(least_of(PAIR, SWEEP, riders, 30)[0], kept[0])


if __name__ == "__main__":
    unittest.main()
