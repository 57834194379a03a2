"""Point 25: a day run, the fates of its riders, the waits in all."""

import copy
import random
import unittest

from chances import USUAL, WILD, drawn_deeds, drawn_house, drawn_state, tags_of
from court_case import HUGE, CourtCase, cabin, court_of, state_of
from liftcourt.courts import Court
from liftcourt.days import fates, read_day, run, waits_of
from liftcourt.dealing import dealer_of
from liftcourt.errors import NoFloor, NoLift, NoRide, Twice
from liftcourt.rules import rule_of
from restated import expected_turn
from restated_days import expected_fates, expected_waits

ONE = "3 free; 0 1 1 plain"
LOCKED = "3 free 2; 0 2 1 plain"
PLAIN_RULES = ("sweep", "homing", "nearest", "shuttle")


def come(tag, start, goal, key=False):
    return ("come", tag, start, goal, key)


def drawn_court(source):
    house = drawn_house(source)
    dealer = source.choice(("near", "least", "turns"))
    return Court(house, rule_of(source.choice(PLAIN_RULES), house[0]), dealer_of(dealer, house))


def drawn_day(source, house, names, first=0, most=25):
    return [drawn_deeds(source, house, names, first + 10 * turn, 3) for turn in range(source.randint(0, most))]


class DayCase(CourtCase):
    def ran(self, court, state, day):
        """What run told, once it is found to be of the right kinds, and each turn what the points' words tell."""
        before = copy.deepcopy((state, day))
        steps = run(court, state, day)
        self.assertEqual((state, day), before)
        self.assertIs(type(steps), list)
        self.assertEqual(len(steps), len(day))
        for deeds, step in zip(day, steps):
            self.assertIs(type(step), tuple)
            self.assertEqual(len(step), 2)
            self.assertState(court, step[0])
            self.assertLog(step[1])
            self.assertEqual(step, expected_turn(court.house, court.rule, court.dealer, state, deeds))
            state = step[0]
        return steps

    def fated(self, court, day):
        """What fates told of a day from the first state, once it is found to be what the states show."""
        steps = self.ran(court, court.begin(), day)
        before = copy.deepcopy((day, steps))
        told = fates(day, steps)
        self.assertEqual((day, steps), before)
        self.assertIs(type(told), list)
        for fate in told:
            self.assertIs(type(fate), tuple)
            self.assertEqual([type(part) for part in fate], [int, int, str, int])
        self.assertEqual(told, expected_fates(court.house, day, steps))
        return told


class Run(DayCase):
    def test_from_the_first_state(self):
        court = court_of(ONE)
        steps = self.ran(court, court.begin(), [[come(4, 0, 1)], [], [], [], [], [], []])
        waiting = [(4, 0, 1, 0)]
        self.assertEqual(steps, [
            (state_of([cabin(0, 0, 1)], waiting), [("deal", 4, 0)]),
            (state_of([cabin(0, 0, 0, 0, [(4, 1)])]), [("in", 4, 0, 0)]),
            (state_of([cabin(1, 1, 0, 0, [(4, 1)])]), []), (state_of([cabin(2, 1, 0, 0, [(4, 1)])]), []),
            (state_of([cabin(2, 1, 1, 0, [(4, 1)])]), []), (state_of([cabin(2, 1)]), [("out", 4, 0, 1)]),
            (state_of([cabin(2)]), []),
        ])

    def test_from_another_state(self):
        court = court_of(ONE)
        state = state_of([cabin(3, 1, 0, 1, [(7, 2)])], [(8, 0, 1, -1)])
        steps = self.ran(court, state, [[], [("free", 0)], [("fire",), come(9, 0, 1)], [("stick", 0)]])
        self.assertEqual(steps, [
            (state, []), (state_of([cabin(4, 1, 0, 0, [(7, 2)])], [(8, 0, 1, 0)]), [("deal", 8, 0)]),
            (state_of([cabin(3, -1, 0, 0, [(7, 2)])], fire=True), [("sent", 8), ("sent", 9)]),
            (state_of([cabin(3, -1, 0, 1, [(7, 2)])], fire=True), []),
        ])

    def test_a_day_of_no_turns(self):
        court = court_of(ONE)
        self.assertEqual(run(court, court.begin(), []), [])
        self.assertEqual(run(court, state_of([cabin(4, 0, 1)]), []), [])

    def test_a_day_that_was_read(self):
        court = court_of(LOCKED)
        day = read_day("come 0 2;come 0 2 key,come 0 1;;", court.house)
        steps = self.ran(court, court.begin(), day)
        logs = [log for state, log in steps]
        self.assertEqual(logs, [[("barred", 0)], [("deal", 1, 0), ("deal", 2, 0)], [("in", 1, 0, 0), ("in", 2, 0, 0)],
                                []])

    def test_drawn_days(self):
        source = random.Random(25)
        for _ in range(60):
            court = drawn_court(source)
            self.ran(court, court.begin(), drawn_day(source, court.house, WILD))
            state = drawn_state(source, court.house)
            self.ran(court, state, drawn_day(source, court.house, WILD, 1000))

    def test_a_day_may_be_run_in_parts(self):
        source = random.Random(26)
        for _ in range(20):
            court = drawn_court(source)
            day = drawn_day(source, court.house, WILD)
            whole = run(court, court.begin(), day)
            cut = source.randint(0, len(day))
            front = run(court, court.begin(), day[:cut])
            self.assertEqual(front + run(court, front[-1][0] if front else court.begin(), day[cut:]), whole)

    def test_a_long_day(self):
        court = court_of("8 way; 0 6 1 plain; 7 6 4 slow; 3 1 2 hasty", "nearest", "turns")
        day = [[come(6 * turn + k, k, 7 - k) for k in range(6)] for turn in range(200)]
        steps = run(court, court.begin(), day)
        self.assertEqual(len(steps), 200)
        self.assertEqual(len(fates(day, steps)), 1200)
        self.assertEqual(fates(day, steps), expected_fates(court.house, day, steps))

    def assertGoesOn(self, day, error, **fields):
        court = court_of(LOCKED)
        before = copy.deepcopy(day)
        with self.assertRaises(error) as caught:
            run(court, court.begin(), day)
        self.assertIs(type(caught.exception), error)
        for name, number in fields.items():
            self.assertEqual(getattr(caught.exception, name), number)
        self.assertEqual(day, before)

    def test_a_turns_refusal_goes_on(self):
        for ahead in ([], [[]], [[come(1, 0, 1)], [("fire",)], []]):
            for behind in ([], [[]], [[("block", 9)]]):
                self.assertGoesOn(ahead + [[come(5, 3, 0)]] + behind, NoFloor, floor=3)
                self.assertGoesOn(ahead + [[come(5, 0, -1)]] + behind, NoFloor, floor=-1)
                self.assertGoesOn(ahead + [[("calm",), come(5, 2, 2)]] + behind, NoRide)
                self.assertGoesOn(ahead + [[("stick", 1)]] + behind, NoLift, lift=1)
                self.assertGoesOn(ahead + [[come(HUGE, 0, 1), come(HUGE, 1, 0)]] + behind, Twice, tag=HUGE)

    def test_a_tag_that_is_there_from_an_earlier_turn(self):
        self.assertGoesOn([[come(3, 0, 1)], [], [come(3, 0, 1)]], Twice, tag=3)
        # Once they are gone the tag is free again.
        court = court_of(LOCKED)
        steps = run(court, court.begin(), [[come(3, 0, 2)], [come(3, 0, 2)]])
        self.assertEqual([log for state, log in steps], [[("barred", 3)], [("barred", 3)]])

    def test_what_is_told_is_the_askers_own(self):
        court = court_of(ONE)
        day = [[come(4, 0, 1)], [], []]
        steps = run(court, court.begin(), day)
        kept = copy.deepcopy(steps)
        other = run(court, court.begin(), day)
        other[0][1].append("more")
        other.pop()
        day[0].clear()
        day.pop()
        self.assertEqual(steps, kept)
        self.assertEqual(run(court, court.begin(), [[come(4, 0, 1)], [], []]), kept)


class Fates(DayCase):
    def test_out(self):
        court = court_of(ONE)
        day = [[], [come(4, 0, 1)]] + [[]] * 8
        self.assertEqual(self.fated(court, day), [(4, 1, "out", 6)])

    def test_waits(self):
        court = court_of(ONE)
        self.assertEqual(self.fated(court, [[], [come(4, 2, 1)]]), [(4, 1, "waits", 1)])
        self.assertEqual(self.fated(court, [[], [come(4, 2, 1)], [], []]), [(4, 1, "waits", 1)])
        # Dealt to none, since the one lift is stuck; dealt anew later.
        day = [[("stick", 0), come(4, 0, 1)], [], [("free", 0)], [("stick", 0)]]
        self.assertEqual(self.fated(court, day), [(4, 0, "waits", 0)])

    def test_aboard(self):
        court = court_of(ONE)
        for turns in range(2, 6):
            day = [[], [come(HUGE, 0, 1)]] + [[]] * (turns - 1)
            self.assertEqual(self.fated(court, day), [(HUGE, 1, "aboard", 2)])
        stuck = [[come(0, 0, 1)], [], [], [("stick", 0)]] + [[]] * 9
        self.assertEqual(self.fated(court, stuck), [(0, 0, "aboard", 1)])

    def test_sent(self):
        court = court_of(ONE)
        day = [[come(1, 2, 0)], [come(2, 1, 0)], [come(3, 1, 0), ("fire",), come(4, 0, 1)], [come(5, 1, 0)]]
        self.assertEqual(self.fated(court, day), [
            (1, 0, "sent", 2), (2, 1, "sent", 2), (3, 2, "sent", 2), (4, 2, "sent", 2), (5, 3, "sent", 3),
        ])

    def test_barred(self):
        court = court_of(LOCKED)
        day = [[], [come(1, 0, 2), come(2, 1, 2, True)], [("fire",), come(3, 0, 2)]]
        self.assertEqual(self.fated(court, day), [(1, 1, "barred", 1), (2, 1, "sent", 2), (3, 2, "barred", 2)])

    def test_below(self):
        court = court_of(ONE)
        day = [[come(1, 0, 2)], [], [], [("fire",)], [], [], [], []]
        self.assertEqual(self.fated(court, day), [(1, 0, "below", 5)])

    def test_out_in_a_fire(self):
        court = court_of("3 free; 2 2 1 plain")
        day = [[come(1, 2, 0), come(2, 2, 1)], [], [("fire",)]] + [[]] * 6
        self.assertEqual(self.fated(court, day), [(1, 0, "out", 7), (2, 0, "below", 7)])

    def test_aboard_in_a_fire(self):
        court = court_of("3 free; 2 2 1 plain")
        day = [[come(1, 2, 0), come(2, 2, 1)], [], [("fire",)], [], [("stick", 0)], []]
        self.assertEqual(self.fated(court, day), [(1, 0, "aboard", 1), (2, 0, "aboard", 1)])

    def test_all_six_in_one_day(self):
        court = court_of("3 free 2; 0 2 1 plain; 2 1 1 plain", dealer="zone 0 0 1")
        day = [[come(10, 0, 1), come(20, 0, 2), come(30, 2, 0)]] + [[]] * 5 + [
            [("fire",), come(25, 1, 0)], [], [], [], [("calm",), come(5, 0, 2, True), come(3, 0, 1)], [], [],
            [("fire",)], [], [], [("calm",)], [("calm",), come(9, 0, 1)], [], [come(8, 2, 1)],
        ]
        told = self.fated(court, day)
        self.assertEqual({fate[2] for fate in told}, {"out", "below", "aboard", "waits", "sent", "barred"})
        self.assertEqual([fate[0] for fate in told], [10, 20, 30, 25, 5, 3, 9, 8])

    def test_riders_of_one_turn_in_their_order(self):
        court = court_of("3 free 2; 0 6 1 plain")
        day = [[], [come(9, 0, 1), ("block", 0), come(2, 0, 2), come(HUGE, 1, 0), come(0, 0, 1), come(5, 2, 0)]]
        told = self.fated(court, day + [[]] * 6)
        self.assertEqual(told, [
            (9, 1, "out", 6), (2, 1, "barred", 1), (HUGE, 1, "aboard", 6), (0, 1, "out", 6), (5, 1, "waits", 1),
        ])

    def test_nobody_comes(self):
        court = court_of(ONE)
        self.assertEqual(self.fated(court, []), [])
        self.assertEqual(self.fated(court, [[], [("fire",)], [("stick", 0)]]), [])

    def test_drawn_days(self):
        source = random.Random(27)
        seen = {}
        for _ in range(150):
            court = drawn_court(source)
            for fate in self.fated(court, drawn_day(source, court.house, source.choice((USUAL, WILD)))):
                seen[fate[2]] = seen.get(fate[2], 0) + 1
        self.assertEqual(sorted(seen), ["aboard", "barred", "below", "out", "sent", "waits"])
        self.assertGreater(min(seen.values()), 3)

    def test_each_rider_that_came_once(self):
        source = random.Random(28)
        for _ in range(40):
            court = drawn_court(source)
            day = drawn_day(source, court.house, USUAL)
            steps = run(court, court.begin(), day)
            told = fates(day, steps)
            self.assertEqual([fate[0] for fate in told], [d[1] for deeds in day for d in deeds if d[0] == "come"])
            there = [fate[0] for fate in told if fate[2] in ("waits", "aboard")]
            self.assertEqual(sorted(there), sorted(tags_of(steps[-1][0])) if steps else [])

    def test_what_is_told_is_the_askers_own(self):
        court = court_of(ONE)
        day = [[come(4, 0, 1)], [], []]
        steps = run(court, court.begin(), day)
        told = fates(day, steps)
        other = fates(day, steps)
        other.clear()
        steps[1][1].clear()
        day.clear()
        self.assertEqual(told, [(4, 0, "aboard", 1)])


class Waits(DayCase):
    def assertWaits(self, told, turns, total):
        before = copy.deepcopy(told)
        self.assertEqual(waits_of(told, turns), total)
        self.assertIs(type(waits_of(told, turns)), int)
        self.assertEqual(told, before)
        self.assertEqual(expected_waits(told, turns), total)

    def test_of_each_word(self):
        self.assertWaits([(0, 3, "out", 9)], 10, 6)
        self.assertWaits([(0, 3, "out", 9)], 50, 6)
        self.assertWaits([(0, 3, "waits", 3)], 10, 7)
        self.assertWaits([(0, 3, "waits", 3)], 50, 47)
        self.assertWaits([(0, 3, "aboard", 6)], 10, 7)
        self.assertWaits([(0, 3, "aboard", 6)], 50, 47)
        for word in ("below", "sent", "barred"):
            for turns in (10, 50):
                self.assertWaits([(0, 3, word, 3 if word == "barred" else 6)], turns, 0)

    def test_of_several(self):
        told = [(9, 0, "out", 5), (2, 0, "barred", 0), (3, 1, "waits", 1), (4, 2, "aboard", 4), (5, 2, "sent", 6),
                (6, 3, "below", 7), (HUGE, 4, "out", 7)]
        self.assertWaits(told, 8, 5 + 7 + 6 + 3)
        self.assertWaits(told, 100, 5 + 99 + 98 + 3)

    def test_of_nobody(self):
        self.assertWaits([], 0, 0)
        self.assertWaits([], 100, 0)

    def test_of_the_last_turn(self):
        self.assertWaits([(0, 9, "waits", 9)], 10, 1)
        self.assertWaits([(0, 9, "sent", 9)], 10, 0)

    def test_of_a_day(self):
        court = court_of(ONE)
        day = [[], [come(4, 0, 1)], [come(5, 0, 1)]] + [[]] * 7
        told = self.fated(court, day)
        self.assertEqual(told, [(4, 1, "out", 6), (5, 2, "waits", 2)])
        self.assertWaits(told, 10, 5 + 8)
        self.assertWaits(told, 25, 5 + 23)

    def test_of_drawn_days(self):
        source = random.Random(29)
        for _ in range(60):
            court = drawn_court(source)
            day = drawn_day(source, court.house, WILD)
            told = fates(day, run(court, court.begin(), day))
            for turns in (len(day), len(day) + 1, len(day) + 100):
                self.assertWaits(told, turns, expected_waits(told, turns))


if __name__ == "__main__":
    unittest.main()
