"""Points 19 to 21: the first state, deeds asked and done, riders dealt."""

import copy
import itertools
import random
import unittest

from chances import WILD, drawn_deeds, drawn_house, drawn_state
from court_case import HUGE, CourtCase, cabin, court_of, state_of
from liftcourt.courts import Court
from liftcourt.dealing import dealer_of
from liftcourt.errors import NoFloor, NoLift, NoRide, Twice
from liftcourt.houses import made_house, read_house
from liftcourt.rules import Homing, Nearest, Rule, Shuttle, Table, as_table, rule_of

ONE = "5 free 3 4; 0 2 2 plain"
TWO = "5 free 3 4; 0 2 2 plain; 4 2 2 plain"
THREE = "5 way 4; 0 2 1 plain; 2 3 2 hasty; 4 6 4 slow"
RULES = ("sweep", "homing", "nearest", "shuttle", "table " + "oxuds" * 7 + "o")


def come(tag, start, goal, key=False):
    return ("come", tag, start, goal, key)


def nobody(cabins, waiting, rider, last):
    return (-1, last)


class First(CourtCase):
    def test_the_first_state(self):
        self.assertEqual(court_of(ONE).begin(), ((cabin(0),), (), 0, False))
        self.assertEqual(court_of(TWO).begin(), ((cabin(0), cabin(8)), (), 1, False))
        self.assertEqual(court_of(THREE).begin(), ((cabin(0), cabin(4), cabin(8)), (), 2, False))

    def test_it_is_a_state_of_the_house(self):
        source = random.Random(1)
        for _ in range(50):
            house = drawn_house(source)
            court = Court(house, Rule(), nobody)
            self.assertState(court, court.begin())
            self.assertEqual([told[0] for told in court.begin()[0]], [2 * lift[0] for lift in house[1]])

    def test_it_stays_the_same_whatever_was_asked(self):
        court = court_of(TWO)
        first = court.begin()
        kept = copy.deepcopy(first)
        court.turn(first, [come(1, 0, 2), ("fire",), ("stick", 1)])
        self.assertEqual(court.begin(), kept)
        self.assertEqual(first, kept)

    def test_the_fields(self):
        house = read_house(THREE)
        for rule in (Rule(), Homing(), Nearest(), Shuttle(4), Table("o" * 36)):
            dealer = dealer_of("near", house)
            court = Court(house, rule, dealer)
            self.assertEqual(court.house, house)
            self.assertIs(court.rule, rule)
            self.assertIs(court.dealer, dealer)

    def test_lists_of_lifts_changed_afterwards(self):
        lifts = [(0, 2, 1, "plain"), (1, 2, 1, "plain")]
        court = Court(made_house(3, lifts, 0, "free"), Rule(), nobody)
        lifts.pop()
        self.assertEqual(len(court.begin()[0]), 2)


class Asked(CourtCase):
    def setUp(self):
        self.court = court_of(TWO)
        cabins = (cabin(2, 1, 0, 0, [(11, 3), (HUGE, 4)]), cabin(7, -1, 0, 2, [(12, 0)]))
        self.state = state_of(cabins, [(21, 1, 0, 0), (22, 3, 2, -1)])

    def test_a_deed_that_is_not_of_the_house(self):
        for deed, error, fields in (
            (come(1, 5, 0), NoFloor, {"floor": 5}), (come(1, -1, 0), NoFloor, {"floor": -1}),
            (come(1, 0, 5), NoFloor, {"floor": 5}), (come(1, 2, 2), NoRide, {}),
            (("block", 2), NoLift, {"lift": 2}), (("stick", -1), NoLift, {"lift": -1}),
            (("goods", 10 ** 30), NoLift, {"lift": 10 ** 30}), (("free", 3), NoLift, {"lift": 3}),
            (("back", 2), NoLift, {"lift": 2}),
        ):
            for deeds in ([deed], [("fire",), come(2, 0, 1), deed], [deed, ("calm",), ("block", 9)]):
                self.assertRefused(self.court, self.state, deeds, error, **fields)

    def test_a_tag_that_is_aboard(self):
        for tag in (11, 12, HUGE):
            for key in (True, False):
                self.assertRefused(self.court, self.state, [come(tag, 0, 1, key)], Twice, tag=tag)
                self.assertRefused(self.court, self.state, [come(tag, 0, 3, key)], Twice, tag=tag)

    def test_a_tag_that_waits(self):
        for tag in (21, 22):
            self.assertRefused(self.court, self.state, [come(1, 0, 1), come(tag, 0, 1)], Twice, tag=tag)

    def test_a_tag_told_by_an_earlier_coming(self):
        deeds = [come(5, 0, 1), come(6, 0, 1), come(5, 3, 2)]
        self.assertRefused(self.court, self.state, deeds, Twice, tag=5)
        self.assertRefused(self.court, self.state, [come(5, 0, 1), ("block", 0), come(5, 0, 1)], Twice, tag=5)
        self.assertRefused(self.court, self.state, [come(0, 0, 1), come(0, 0, 1)], Twice, tag=0)

    def test_an_earlier_coming_counts_though_it_is_barred_or_sent(self):
        self.assertRefused(self.court, self.state, [come(5, 0, 3), come(5, 0, 1)], Twice, tag=5)
        self.assertRefused(self.court, self.state, [("fire",), come(5, 0, 1), come(5, 0, 1)], Twice, tag=5)
        self.assertRefused(self.court, self.state, [come(HUGE - 1, 0, 3)] * 2, Twice, tag=HUGE - 1)

    def test_a_tag_of_one_that_would_leave_by_the_deeds_counts(self):
        self.assertRefused(self.court, self.state, [("fire",), come(21, 0, 1)], Twice, tag=21)
        below = state_of((cabin(0, 0, 1, 0, [(1, 0)]), cabin(0, 0, 1)), fire=True)
        self.assertRefused(self.court, below, [come(1, 0, 1)], Twice, tag=1)

    def test_a_tag_may_come_again_once_it_is_gone(self):
        below = state_of((cabin(0, 0, 1, 0, [(1, 0)]), cabin(0, 0, 1)), fire=True)
        state, log = self.court.turn(below, [])
        self.assertEqual(log, [("out", 1, 0, 0)])
        self.assertEqual(self.court.turn(state, [come(1, 0, 1)])[1], [("sent", 1)])
        self.assertEqual(self.court.turn(state, [("calm",), come(1, 0, 1)])[1][0], ("deal", 1, 0))

    def test_the_first_deed_that_is_refused_counts(self):
        wrong = [
            (come(1, 9, 0), NoFloor, {"floor": 9}), (come(1, 2, 2), NoRide, {}), (("stick", 7), NoLift, {"lift": 7}),
            (come(11, 0, 1), Twice, {"tag": 11}), (come(22, 0, 1), Twice, {"tag": 22}),
        ]
        for (first, error, fields), (other, _, _) in itertools.permutations(wrong, 2):
            self.assertRefused(self.court, self.state, [("calm",), first, ("fire",), other], error, **fields)

    def test_of_one_coming_the_house_is_asked_first(self):
        self.assertRefused(self.court, self.state, [come(11, 5, 0)], NoFloor, floor=5)
        self.assertRefused(self.court, self.state, [come(21, 0, -7)], NoFloor, floor=-7)
        self.assertRefused(self.court, self.state, [come(22, 1, 1)], NoRide)

    def test_the_dealer_is_not_asked_where_a_deed_is_refused(self):
        asked = []
        court = court_of(TWO, dealer=lambda cabins, waiting, rider, last: asked.append(rider))
        self.assertRefused(court, self.state, [come(1, 0, 1), ("block", 2)], NoLift, lift=2)
        self.assertEqual(asked, [])

    def test_other_tags_are_no_matter(self):
        deeds = [come(10, 0, 1), come(13, 0, 1), come(0, 0, 1), come(HUGE - 1, 0, 1), come(3, 0, 1), come(4, 0, 1)]
        self.turned(self.court, self.state, deeds)


class Comings(CourtCase):
    def test_a_locked_goal(self):
        court = court_of(ONE, dealer=nobody)
        first = court.begin()
        for goal in range(1, 5):
            locked = goal in (3, 4)
            waiting = [] if locked else [(7, 0, goal, -1)]
            log = [("barred", 7)] if locked else []
            self.assertTurn(court, first, [come(7, 0, goal)], first[0], waiting, log)
            self.assertTurn(court, first, [come(7, 0, goal, True)], first[0], [(7, 0, goal, -1)], [])

    def test_a_locked_start_is_no_matter(self):
        court = court_of(ONE, dealer=nobody)
        for start in (3, 4):
            for key in (True, False):
                deeds = [come(7, start, 1, key)]
                self.assertTurn(court, court.begin(), deeds, court.begin()[0], [(7, start, 1, -1)], [])

    def test_in_a_fire(self):
        court = court_of(ONE)
        fire = state_of([cabin(0, 0, 2)], fire=True)
        for goal in range(1, 5):
            without_key = "barred" if goal in (3, 4) else "sent"
            self.assertTurn(court, fire, [come(7, 0, goal)], fire[0], [], [(without_key, 7)])
            self.assertTurn(court, fire, [come(7, 0, goal, True)], fire[0], [], [("sent", 7)])

    def test_behind_all_others_in_their_order(self):
        court = court_of(TWO, dealer=nobody)
        state = state_of(court.begin()[0], [(9, 2, 1, -1), (4, 1, 2, -1)])
        deeds = [come(8, 3, 0), come(2, 0, 4), come(1, 2, 0), come(0, 2, 3, True)]
        waiting = [(9, 2, 1, -1), (4, 1, 2, -1), (8, 3, 0, -1), (1, 2, 0, -1), (0, 2, 3, -1)]
        self.assertTurn(court, state, deeds, state[0], waiting, [("barred", 2)])

    def test_sixty_comings_and_many_that_wait(self):
        court = court_of(TWO, dealer="turns")
        waiting = [(k, 1 + k % 2, 0, -1) for k in range(1140)]
        deeds = [come(HUGE - k, 2, 1) for k in range(60)]
        state = state_of([cabin(0), cabin(8)], waiting, 1)
        told, log = self.turned(court, state, deeds)
        self.assertEqual(len(told[1]), 1200)
        self.assertEqual([rider[3] for rider in told[1]], [0, 1] * 600)
        self.assertEqual(log[-1], ("deal", HUGE - 59, 1))


class Marks(CourtCase):
    def setUp(self):
        self.court = court_of(TWO, dealer=nobody)
        self.riders = [(5, 1, 0, 1), (3, 2, 4, 0), (9, 3, 2, 1), (1, 2, 1, -1), (4, 2, 0, 0)]

    def assertMarks(self, before, deeds, behind, lift=0):
        cabins = [cabin(3, 1), cabin(3, 1)]
        cabins[lift] = cabin(3, 1, 0, before)
        told, log = self.turned(self.court, state_of(cabins), deeds)
        self.assertEqual([told[0][lift][3], told[0][1 - lift][3]], [behind, 0])
        self.assertEqual(log, [])

    def test_each_deed_upon_each_marks(self):
        for lift in (0, 1):
            for marks in range(4):
                self.assertMarks(marks, [("stick", lift)], marks | 1, lift)
                self.assertMarks(marks, [("goods", lift)], marks | 2, lift)
                self.assertMarks(marks, [("free", lift)], marks & 2, lift)
                self.assertMarks(marks, [("back", lift)], marks & 1, lift)

    def test_twice(self):
        for marks in range(4):
            self.assertMarks(marks, [("stick", 0), ("stick", 0)], marks | 1)
            self.assertMarks(marks, [("goods", 0), ("goods", 0)], marks | 2)
            self.assertMarks(marks, [("free", 0), ("free", 0)], marks & 2)
            self.assertMarks(marks, [("back", 0), ("back", 0)], marks & 1)

    def test_in_their_order(self):
        for marks in range(4):
            self.assertMarks(marks, [("stick", 0), ("free", 0)], marks & 2)
            self.assertMarks(marks, [("free", 0), ("stick", 0)], marks | 1)
            self.assertMarks(marks, [("goods", 0), ("back", 0)], marks & 1)
            self.assertMarks(marks, [("back", 0), ("goods", 0)], marks | 2)
            self.assertMarks(marks, [("stick", 0), ("goods", 0)], 3)
            self.assertMarks(marks, [("free", 0), ("back", 0)], 0)
            self.assertMarks(marks, [("stick", 0), ("goods", 0), ("free", 0)], 2)

    def test_who_is_dealt_to_it_is_dealt_to_none(self):
        for name, marks in (("stick", 1), ("goods", 2)):
            waiting = [(5, 1, 0, 1), (3, 2, 4, -1), (9, 3, 2, 1), (1, 2, 1, -1), (4, 2, 0, -1)]
            cabins = [cabin(1 if name == "stick" else 2, 1, 0, marks), cabin(8, 1)]
            state = state_of([cabin(1, 1), cabin(7, 1)], self.riders)
            self.assertTurn(self.court, state, [(name, 0)], cabins, waiting, [])

    def test_free_and_back_deal_nobody_anew(self):
        state = state_of([cabin(1, 1), cabin(1, 1)], self.riders)
        for deeds in ([("free", 0)], [("back", 0)], [("free", 1), ("back", 1), ("back", 0), ("free", 0)]):
            self.assertTurn(self.court, state, deeds, [cabin(2, 1), cabin(2, 1)], self.riders, [])

    def test_stuck_and_free_again_in_one_turn(self):
        state = state_of([cabin(1, 1), cabin(1, 1)], self.riders)
        waiting = [(5, 1, 0, 1), (3, 2, 4, -1), (9, 3, 2, 1), (1, 2, 1, -1), (4, 2, 0, -1)]
        for deeds in ([("stick", 0), ("free", 0)], [("goods", 0), ("back", 0)]):
            self.assertTurn(self.court, state, deeds, [cabin(2, 1), cabin(2, 1)], waiting, [])

    def test_they_are_dealt_anew_in_the_same_turn(self):
        court = court_of(TWO, dealer="near")
        state = state_of([cabin(1, 1), cabin(1, 1)], self.riders)
        waiting = [(5, 1, 0, 1), (3, 2, 4, 1), (9, 3, 2, 1), (1, 2, 1, 1), (4, 2, 0, 1)]
        log = [("deal", 3, 1), ("deal", 1, 1), ("deal", 4, 1)]
        self.assertTurn(court, state, [("goods", 0)], [cabin(2, 1, 0, 2), cabin(2, 1)], waiting, log)
        self.assertTurn(court, state, [("stick", 0)], [cabin(1, 1, 0, 1), cabin(2, 1)], waiting, log)

    def test_who_comes_behind_the_mark_is_not_changed_by_it(self):
        court = court_of(TWO, dealer="fixed 0")
        deeds = [("goods", 0), come(50, 2, 0), ("back", 0)]
        state = state_of([cabin(1, 1), cabin(1, 1)], [(5, 3, 0, 0)])
        waiting = [(5, 3, 0, 0), (50, 2, 0, 0)]
        log = [("deal", 5, 0), ("deal", 50, 0)]
        self.assertTurn(court, state, deeds, [cabin(2, 1), cabin(2, 1)], waiting, log)

    def test_in_a_fire_marks_change_too(self):
        fire = state_of([cabin(3, -1), cabin(3, -1, 0, 3)], fire=True)
        cabins = [cabin(3, -1, 0, 1), cabin(2, -1, 0, 2)]
        self.assertTurn(self.court, fire, [("stick", 0), ("free", 1)], cabins, [], [])


class Fire(CourtCase):
    def test_all_that_wait_are_sent_in_their_order(self):
        court = court_of(TWO)
        state = state_of([cabin(1, 1), cabin(8)], [(9, 1, 0, -1), (3, 2, 0, 1), (7, 0, 1, 0), (1, 3, 1, -1)], 1)
        log = [("sent", 9), ("sent", 3), ("sent", 7), ("sent", 1)]
        self.assertTurn(court, state, [("fire",)], [cabin(0, -1), cabin(7, -1)], [], log, fire=True)

    def test_who_came_ahead_of_it_and_who_comes_behind_it(self):
        court = court_of(ONE)
        state = state_of([cabin(3, 1)], [(9, 1, 0, 0)])
        deeds = [come(5, 0, 1), come(4, 0, 3), ("fire",), come(3, 0, 1), come(2, 0, 3), come(1, 0, 4, True)]
        log = [("barred", 4), ("sent", 9), ("sent", 5), ("sent", 3), ("barred", 2), ("sent", 1)]
        self.assertTurn(court, state, deeds, [cabin(2, -1)], [], log, fire=True)

    def test_in_a_fire_it_does_nothing(self):
        court = court_of(ONE)
        state = state_of([cabin(3, -1)], fire=True)
        for deeds in ([], [("fire",)], [("fire",), ("fire",)]):
            self.assertTurn(court, state, deeds, [cabin(2, -1)], [], [])
        deeds = [("fire",), come(1, 0, 1), ("fire",)]
        self.assertTurn(court, state_of([cabin(3, 1)]), deeds, [cabin(2, -1)], [], [("sent", 1)], fire=True)

    def test_nobody_is_dealt_in_a_fire(self):
        asked = []
        court = court_of(ONE, dealer=lambda cabins, waiting, rider, last: asked.append(rider))
        court.turn(state_of([cabin(0)], [(1, 2, 0, -1)]), [come(2, 0, 1), ("fire",), come(3, 0, 1)])
        self.assertEqual(asked, [])


class Calm(CourtCase):
    def test_where_all_stand_below_open_and_empty(self):
        court = court_of(TWO)
        for doors in itertools.product((1, 2), repeat=2):
            state = state_of([cabin(0, 0, doors[0]), cabin(0, 0, doors[1])], fire=True)
            cabins = [cabin(0, 0, doors[0] - 1), cabin(0, 0, doors[1] - 1)]
            self.assertTurn(court, state, [("calm",)], cabins, [], [], fire=False)

    def test_any_marks_and_lights(self):
        court = court_of(TWO)
        for marks in range(4):
            state = state_of([cabin(0, 0, 2, marks), cabin(0, 1, 1)], fire=True)
            first = cabin(0, 0, 2 if marks in (1, 3) else 1, marks)
            self.assertTurn(court, state, [("calm",)], [first, cabin(0, 1, 0)], [], [], fire=False)

    def test_else_it_does_nothing(self):
        court = court_of(TWO)
        left = cabin(0, 0, 2)
        for other, behind, log in (
            (cabin(0), left, []), (cabin(1, -1), cabin(0, -1), []), (cabin(2, 0, 1), cabin(2, 0, 0), []),
            (cabin(2), cabin(1, -1), []), (cabin(0, 0, 1, 0, [(5, 3)]), left, [("out", 5)]),
            (cabin(0, 0, 0, 0, [(5, 0)]), cabin(0, 0, 2, 0, [(5, 0)]), []), (cabin(8, 1, 0, 1), cabin(8, 1, 0, 1), []),
        ):
            for number in (0, 1):
                outs = [entry + (number, 0) for entry in log]
                before, after = [left, left], [left, left]
                before[number], after[number] = other, behind
                state = state_of(before, fire=True)
                self.assertTurn(court, state, [("calm",)], after, [], outs)
                self.assertTurn(court, state, [("calm",), come(9, 0, 1)], after, [], [("sent", 9)] + outs)

    def test_without_a_fire_it_does_nothing(self):
        court = court_of(ONE, dealer=nobody)
        for told, behind in ((cabin(0, 0, 2), cabin(0, 0, 1)), (cabin(3, 1), cabin(4, 1)), (cabin(0), cabin(0))):
            state = state_of([told], [(1, 2, 0, -1)])
            self.assertTurn(court, state, [("calm",), ("calm",)], [behind], [(1, 2, 0, -1)], [])

    def test_fire_and_calm_in_one_turn(self):
        court = court_of(ONE, dealer=nobody)
        state = state_of([cabin(0, 0, 2)], [(1, 2, 0, -1)])
        deeds = [("fire",), come(2, 1, 0), ("calm",), come(3, 1, 0), ("calm",)]
        self.assertTurn(court, state, deeds, [cabin(0, 0, 1)], [(3, 1, 0, -1)], [("sent", 1), ("sent", 2)], fire=False)
        deeds = [("fire",), ("calm",), ("fire",), come(3, 1, 0)]
        self.assertTurn(court, state, deeds, [cabin(0, 0, 2)], [], [("sent", 1), ("sent", 3)], fire=True)
        deeds = [("calm",), ("fire",)]
        self.assertTurn(court, state, deeds, [cabin(0, 0, 2)], [], [("sent", 1)], fire=True)

    def test_who_comes_behind_it_is_dealt_and_steps_in(self):
        court = court_of(ONE)
        state = state_of([cabin(0, 0, 2)], fire=True)
        deeds = [come(1, 0, 1), ("calm",), come(2, 0, 1)]
        log = [("sent", 1), ("deal", 2, 0), ("in", 2, 0, 0)]
        self.assertTurn(court, state, deeds, [cabin(0, 0, 1, 0, [(2, 1)])], [], log, fire=False)

    def test_the_last_stays_through_a_fire(self):
        court = court_of(TWO, dealer="turns")
        for last in (0, 1):
            state = state_of([cabin(0, 0, 2), cabin(0, 0, 2)], [(1, 2, 0, -1)], last)
            self.assertTurn(court, state, [("fire",)], state[0], [], [("sent", 1)], fire=True)
            state = state_of([cabin(0, 0, 2), cabin(0, 0, 2)], (), last, True)
            waiting = [(5, 2, 0, 1 - last)]
            cabins = [cabin(0, 0, 1)] * 2
            log = [("deal", 5, 1 - last)]
            self.assertTurn(court, state, [("calm",), come(5, 2, 0)], cabins, waiting, log, 1 - last, False)


class Dealt(CourtCase):
    def test_in_the_order_of_coming(self):
        court = court_of(TWO, dealer="turns")
        state = state_of([cabin(1, 1), cabin(1, 1)], [(9, 3, 0, -1), (4, 3, 1, 1), (6, 2, 1, -1)], 1)
        waiting = [(9, 3, 0, 0), (4, 3, 1, 1), (6, 2, 1, 1), (1, 3, 1, 0)]
        log = [("deal", 9, 0), ("deal", 6, 1), ("deal", 1, 0)]
        self.assertTurn(court, state, [come(1, 3, 1)], [cabin(2, 1), cabin(2, 1)], waiting, log, 0)

    def test_who_is_dealt_already_is_not_dealt_again(self):
        court = court_of(TWO, dealer="near")
        state = state_of([cabin(1, 1), cabin(7, -1)], [(9, 4, 0, 0), (4, 0, 1, 1)])
        self.assertTurn(court, state, [], [cabin(2, 1), cabin(6, -1)], state[1], [])

    def test_dealt_to_none_again_and_again(self):
        court = court_of(TWO, dealer="near")
        state = court.begin()
        state, log = self.turned(court, state, [("stick", 0), ("goods", 1), come(1, 2, 0), come(2, 1, 0)])
        self.assertEqual((log, state[1]), ([], ((1, 2, 0, -1), (2, 1, 0, -1))))
        for _ in range(5):
            state, log = self.turned(court, state, [])
            self.assertEqual((log, state[1]), ([], ((1, 2, 0, -1), (2, 1, 0, -1))))
        state, log = self.turned(court, state, [("back", 1), come(3, 3, 0)])
        self.assertEqual(log, [("deal", 1, 1), ("deal", 2, 1), ("deal", 3, 1)])
        self.assertEqual([rider[3] for rider in state[1]], [1, 1, 1])

    def test_what_the_dealer_is_handed(self):
        handed = []

        def dealer(cabins, waiting, rider, last):
            handed.append((cabins, waiting, rider, last))
            return {9: (1, 0), 6: (-1, 1), 1: (0, 1)}[rider[0]]

        court = court_of(TWO, dealer=dealer)
        state = state_of([cabin(1, 1, 0, 3), cabin(7, -1)], [(9, 3, 0, -1), (4, 3, 1, 1), (6, 2, 1, -1)], 1)
        deeds = [come(1, 2, 1), ("back", 0), ("free", 0), ("block", 1)]
        told, log = court.turn(state, deeds)
        cabins = (cabin(1, 1), cabin(7, -1))
        first = ((9, 3, 0, -1), (4, 3, 1, 1), (6, 2, 1, -1), (1, 2, 1, -1))
        then = ((9, 3, 0, 1), (4, 3, 1, 1), (6, 2, 1, -1), (1, 2, 1, -1))
        self.assertEqual(len(handed), 3)
        self.assertEqual([tuple(asked[0]) for asked in handed], [cabins] * 3)
        self.assertEqual([tuple(asked[1]) for asked in handed], [first, then, then])
        self.assertEqual([asked[2] for asked in handed], [(9, 3, 0, -1), (6, 2, 1, -1), (1, 2, 1, -1)])
        self.assertEqual([asked[3] for asked in handed], [1, 0, 1])
        self.assertEqual(log, [("deal", 9, 1), ("deal", 1, 0)])
        self.assertEqual(told[1:], (((9, 3, 0, 1), (4, 3, 1, 1), (6, 2, 1, -1), (1, 2, 1, 0)), 1, False))

    def test_a_dealer_that_tells_none_and_another_last(self):
        for new in (0, 1):
            court = court_of(TWO, dealer=lambda cabins, waiting, rider, last: (-1, new))
            for last in (0, 1):
                state = state_of([cabin(1, 1), cabin(1, 1)], [(9, 3, 0, -1)], last)
                self.assertTurn(court, state, [], [cabin(2, 1), cabin(2, 1)], state[1], [], new)

    def test_a_dealer_that_tells_a_lift_and_another_last(self):
        court = court_of(TWO, dealer=lambda cabins, waiting, rider, last: (0, 1 - last))
        state = state_of([cabin(1, 1), cabin(1, 1)], [(9, 3, 0, -1)], 0)
        waiting = [(9, 3, 0, 0), (8, 3, 0, 0)]
        log = [("deal", 9, 0), ("deal", 8, 0)]
        self.assertTurn(court, state, [], [cabin(2, 1), cabin(2, 1)], waiting[:1], log[:1], 1)
        self.assertTurn(court, state, [come(8, 3, 0)], [cabin(2, 1), cabin(2, 1)], waiting, log, 0)

    def test_a_dealer_is_asked_though_no_lift_serves(self):
        court = court_of(ONE, dealer=lambda cabins, waiting, rider, last: (-1, 0) if cabins[0][3] else (0, 0))
        state = state_of([cabin(0, 0, 0, 1)], [(9, 3, 0, -1)])
        self.assertTurn(court, state, [], state[0], state[1], [])

    def test_what_a_dealer_keeps_or_changes_is_no_matter(self):
        kept = []

        def dealer(cabins, waiting, rider, last):
            kept.append((cabins, waiting, copy.deepcopy(cabins), copy.deepcopy(waiting)))
            for handed in (cabins, waiting):
                if isinstance(handed, list):
                    handed.clear()
            return (0, 0)

        court = court_of(ONE, dealer=dealer)
        told, log = court.turn(court.begin(), [come(1, 2, 0), come(2, 1, 0)])
        self.assertEqual(told, (((1, 1, 0, 0, ()),), ((1, 2, 0, 0), (2, 1, 0, 0)), 0, False))
        self.assertEqual(log, [("deal", 1, 0), ("deal", 2, 0)])
        court.turn(told, [("fire",)])
        for cabins, waiting, cabins_then, waiting_then in kept:
            self.assertEqual((cabins, waiting), (cabins_then, waiting_then))

    def test_a_dealer_that_asks_the_court_itself(self):
        inner = court_of(ONE)
        logs = []

        def dealer(cabins, waiting, rider, last):
            logs.append(inner.turn(inner.begin(), [come(rider[0], 0, 1)])[1])
            return (0, 0)

        court = court_of(ONE, dealer=dealer)
        told, log = court.turn(court.begin(), [come(1, 2, 0), come(2, 1, 0)])
        self.assertEqual(log, [("deal", 1, 0), ("deal", 2, 0)])
        self.assertEqual(logs, [[("deal", 1, 0)], [("deal", 2, 0)]])


class Owned(CourtCase):
    def test_the_log_is_the_askers_own(self):
        court = court_of(ONE)
        state = court.begin()
        deeds = [come(1, 0, 1), come(2, 0, 3)]
        told, log = court.turn(state, deeds)
        kept = copy.deepcopy((told, log))
        log.append("more")
        deeds.clear()
        self.assertEqual(court.turn(state, [come(1, 0, 1), come(2, 0, 3)]), kept)
        self.assertEqual(told, kept[0])

    def test_a_turn_without_riders_has_an_own_empty_log(self):
        court = court_of(ONE)
        first = court.turn(court.begin(), [])[1]
        first.append("more")
        self.assertEqual(court.turn(court.begin(), [])[1], [])

    def test_states_as_keys_of_a_dict(self):
        court = court_of(THREE)
        seen = {court.begin(): 0}
        state = court.begin()
        for k in range(1, 12):
            state = court.turn(state, [come(k, 0, 3)])[0]
            self.assertNotIn(state, seen)
            seen[state] = k
        self.assertEqual(seen[court.begin()], 0)

    def test_nothing_hangs_on_what_was_asked_before(self):
        court = court_of(THREE, dealer="turns")
        state = state_of(court.begin()[0], [(1, 2, 0, 1)], 0)
        first = court.turn(state, [come(2, 3, 0), ("block", 1)])
        court.turn(state, [come(2, 3, 1), ("fire",), ("stick", 0), ("block", 0)])
        self.assertEqual(court.turn(state, [come(2, 3, 0), ("block", 1)]), first)

    def test_two_courts_of_one_house(self):
        house = read_house(TWO)
        near = Court(house, Rule(), dealer_of("near", house))
        fixed = Court(house, Rule(), dealer_of("fixed 1", house))
        deeds = [come(1, 1, 0)]
        self.assertEqual(near.turn(near.begin(), deeds)[1], [("deal", 1, 0)])
        self.assertEqual(fixed.turn(fixed.begin(), deeds)[1], [("deal", 1, 1)])
        self.assertEqual(near.turn(near.begin(), deeds)[1], [("deal", 1, 0)])


class Many(CourtCase):
    def dealers(self, source, house):
        numbers = [str(number) for number in range(len(house[1]))]
        return source.choice((
            "near", "least", "turns", "zone " + " ".join(source.choice(numbers) for _ in range(house[0])),
            "fixed " + " ".join(source.choice(numbers) for _ in range(source.randint(1, 9))),
        ))

    def drawn_court(self, source):
        house = drawn_house(source)
        return Court(house, rule_of(source.choice(RULES), house[0]), dealer_of(self.dealers(source, house), house))

    def test_single_turns_from_any_states(self):
        source = random.Random(20)
        for _ in range(2500):
            court = self.drawn_court(source)
            state = drawn_state(source, court.house)
            self.turned(court, state, drawn_deeds(source, court.house, WILD, 2000))

    def test_rows_of_turns_from_the_first_state(self):
        source = random.Random(21)
        for _ in range(60):
            court = self.drawn_court(source)
            state = court.begin()
            for turn in range(30):
                state = self.turned(court, state, drawn_deeds(source, court.house, WILD, 100 * turn, 4))[0]

    def test_a_table_of_a_rule_does_as_the_rule(self):
        source = random.Random(22)
        for _ in range(200):
            house = drawn_house(source)
            dealer = dealer_of("least", house)
            state = drawn_state(source, house)
            deeds = drawn_deeds(source, house, WILD, 2000)
            plain = Court(house, Rule(), dealer).turn(state, deeds)
            self.assertEqual(Court(house, Table(as_table(Rule())), dealer).turn(state, deeds), plain)


if __name__ == "__main__":
    unittest.main()
