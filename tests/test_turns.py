"""Point 22: the lifts do their turn, with and without a fire, and the log tells who steps out and in."""

import itertools
import unittest

from court_case import HUGE, CourtCase, cabin, court_of, state_of

SORTS = ("free", "way")
KINDS = ("plain", "hasty", "slow")
LETTERS = "oxuds"


def come(tag, start, goal, key=False):
    return ("come", tag, start, goal, key)


def house(sort="free", kind="plain", room=2, turns=3, floors=5):
    return f"{floors} {sort}; 0 {room} {turns} {kind}"


def nobody(cabins, waiting, rider, last):
    return (-1, last)


class Doors(CourtCase):
    def assertCount(self, kind, count, deeds, told, waiting, expected):
        for sort in SORTS:
            court = court_of(house(sort, kind))
            state = state_of([cabin(4, 1, count, 0, told)], waiting)
            self.assertEqual(self.turned(court, state, deeds)[0][0][0][2], expected, (kind, count, deeds))

    def test_nobody_steps_and_nobody_stands_in_it(self):
        for kind in KINDS:
            for count in (1, 2, 3):
                self.assertCount(kind, count, [], [(1, 4)], [(2, 3, 4, 0)], count - 1)
                self.assertCount(kind, count, [], [], [], count - 1)

    def test_blocked(self):
        for count in (1, 2, 3):
            for told in ([], [(1, 2)]):
                self.assertCount("plain", count, [("block", 0)], told, [], 3)
                self.assertCount("hasty", count, [("block", 0)], told, [], count)
                self.assertCount("slow", count, [("block", 0)], told, [], 3)

    def test_blocked_twice_in_a_turn(self):
        for kind, expected in (("plain", 3), ("hasty", 1), ("slow", 3)):
            self.assertCount(kind, 1, [("block", 0), ("block", 0)], [], [], expected)

    def test_somebody_steps_out_or_in(self):
        for count in (1, 2, 3):
            for told, waiting in (([(1, 2)], []), ([], [(2, 2, 3, 0)]), ([(1, 2)], [(2, 2, 3, 0)])):
                self.assertCount("plain", count, [], told, waiting, count - 1)
                self.assertCount("hasty", count, [], told, waiting, count - 1)
                self.assertCount("slow", count, [], told, waiting, 3)

    def test_a_block_lasts_for_its_turn_alone(self):
        for kind in KINDS:
            court = court_of(house("free", kind))
            state = state_of([cabin(4, 0, 2)])
            blocked = court.turn(state, [("block", 0)])[0]
            self.assertEqual(court.turn(blocked, [])[0][0][0][2], blocked[0][0][2] - 1)

    def test_a_block_of_another_lift(self):
        for kind in KINDS:
            court = court_of(f"5 free; 0 2 3 {kind}; 0 2 3 plain; 0 2 3 plain")
            state = state_of([cabin(4, 0, 2), cabin(4, 0, 2), cabin(4, 0, 2)])
            self.assertEqual([told[2] for told in court.turn(state, [("block", 1)])[0][0]], [1, 3, 1])
            self.assertEqual([told[2] for told in court.turn(state, [("block", 2)])[0][0]], [1, 1, 3])
            both = [("block", 2), ("block", 0)]
            self.assertEqual([told[2] for told in court.turn(state, both)[0][0]], [2 if kind == "hasty" else 3, 1, 3])

    def test_a_block_does_nothing_to_a_shut_door(self):
        for kind in KINDS:
            for sort in SORTS:
                court = court_of(house(sort, kind))
                for told, behind in ((cabin(3, 1), cabin(4, 1)), (cabin(4, 1), cabin(4)), (cabin(0), cabin(0))):
                    self.assertTurn(court, state_of([told]), [("block", 0)], [behind], [], [])

    def test_the_word_that_opens_gives_all_turns(self):
        for kind, turns in itertools.product(KINDS, (1, 2, 3, 4)):
            court = court_of(house("free", kind, 2, turns))
            state = state_of([cabin(4)], [(1, 2, 0, 0)])
            self.assertTurn(court, state, [], [cabin(4, 0, turns)], state[1], [])
            self.assertTurn(court, state, [("block", 0)], [cabin(4, 0, turns)], state[1], [])


class Steps(CourtCase):
    def test_out_then_in_with_the_lift_and_the_floor(self):
        court = court_of("5 free; 0 4 3 plain; 0 4 3 plain")
        told = cabin(6, 0, 2, 0, [(4, 3), (1, 0), (3, 3)])
        waiting = [(9, 3, 0, 1), (8, 2, 0, 1), (7, 3, 4, 0), (6, 3, 1, 1), (5, 3, 2, 1)]
        behind = cabin(6, 0, 1, 0, [(1, 0), (9, 0), (6, 1), (5, 2)])
        log = [("out", 4, 1, 3), ("out", 3, 1, 3), ("in", 9, 1, 3), ("in", 6, 1, 3), ("in", 5, 1, 3)]
        state = state_of([cabin(3, -1), told], waiting)
        left = [(8, 2, 0, 1), (7, 3, 4, 0)]
        self.assertTurn(court, state, [], [cabin(2, -1), behind], left, log)

    def test_the_log_goes_by_the_lifts(self):
        court = court_of("5 free; 0 4 3 plain; 0 4 3 plain; 0 4 3 plain")
        cabins = [cabin(2, 0, 1, 0, [(11, 1)]), cabin(2, 0, 1, 0, [(12, 1)]), cabin(4, 0, 1, 0, [(13, 2)])]
        waiting = [(1, 2, 0, 2), (2, 1, 0, 1), (3, 1, 0, 0), (4, 1, 2, 0)]
        log = [
            ("out", 11, 0, 1), ("in", 3, 0, 1), ("in", 4, 0, 1), ("out", 12, 1, 1), ("in", 2, 1, 1), ("out", 13, 2, 2),
            ("in", 1, 2, 2),
        ]
        behind = [cabin(2, 0, 0, 0, [(3, 0), (4, 2)]), cabin(2, 0, 0, 0, [(2, 0)]), cabin(4, 0, 0, 0, [(1, 0)])]
        self.assertTurn(court, state_of(cabins, waiting), [], behind, [], log)

    def test_the_whole_order_of_the_log(self):
        court = court_of("5 free 4; 0 4 3 plain; 0 4 3 plain", dealer="fixed 0 1")
        cabins = [cabin(2, 0, 1, 0, [(100, 1)]), cabin(4, 0, 1, 0, [(101, 2)])]
        deeds = [come(3, 2, 0), come(5, 0, 4), come(2, 1, 0), ("goods", 0), ("back", 0)]
        log = [
            ("barred", 5), ("deal", 10, 0), ("deal", 3, 1), ("deal", 2, 0), ("out", 100, 0, 1), ("in", 10, 0, 1),
            ("in", 2, 0, 1), ("out", 101, 1, 2), ("in", 3, 1, 2),
        ]
        behind = [cabin(2, 0, 0, 0, [(10, 0), (2, 0)]), cabin(4, 0, 0, 0, [(3, 0)])]
        self.assertTurn(court, state_of(cabins, [(10, 1, 0, 0)]), deeds, behind, [], log)

    def test_who_is_dealt_elsewhere_or_to_none_stays(self):
        court = court_of("5 free; 0 4 3 plain; 0 4 3 plain", dealer=nobody)
        cabins = [cabin(2, 0, 2), cabin(4, 0, 2)]
        waiting = [(1, 1, 0, 1), (2, 1, 0, -1), (3, 2, 0, 0)]
        self.assertTurn(court, state_of(cabins, waiting), [], [cabin(2, 0, 1), cabin(4, 0, 1)], waiting, [])

    def test_who_comes_may_step_in_at_once(self):
        for sort, light in (("free", 0), ("way", 1)):
            court = court_of(house(sort))
            log = [("deal", HUGE, 0), ("in", HUGE, 0, 2)]
            behind = cabin(4, light, 1, 0, [(HUGE, 4)])
            self.assertTurn(court, state_of([cabin(4, 0, 2)]), [come(HUGE, 2, 4)], [behind], [], log)

    def test_the_way(self):
        court = court_of(house("way", room=6))
        waiting = [(1, 2, 0, 0), (2, 2, 4, 0), (3, 2, 1, 0)]
        down = cabin(4, -1, 1, 0, [(1, 0), (3, 1)])
        up = cabin(4, 1, 1, 0, [(2, 4)])
        for light, behind, left in ((0, down, [1]), (-1, down, [1]), (1, up, [0, 2])):
            state = state_of([cabin(4, light, 2)], waiting)
            told = [waiting[k] for k in left]
            log = [("in", tag, 0, 2) for tag, goal in behind[4]]
            self.assertTurn(court, state, [], [behind], told, log)

    def test_no_more_than_the_room(self):
        for sort in SORTS:
            for room in range(1, 7):
                court = court_of(house(sort, room=room))
                waiting = [(k, 2, 4, 0) for k in range(8)]
                behind = cabin(4, 1, 1, 0, [(k, 4) for k in range(room)])
                log = [("in", k, 0, 2) for k in range(room)]
                self.assertTurn(court, state_of([cabin(4, 1, 2)], waiting), [], [behind], waiting[room:], log)

    def test_the_rule_is_not_asked_while_the_door_is_open(self):
        court = court_of(house(), "table " + "u" * 36)
        for count in (1, 2, 3):
            self.assertTurn(court, state_of([cabin(4, 1, count)]), [], [cabin(4, 1, count - 1)], [], [])


class Between(CourtCase):
    def test_half_a_floor_by_the_light(self):
        for sort, rule in itertools.product(SORTS, ("sweep", "nearest", "table " + "o" * 36)):
            court = court_of(house(sort), rule)
            for place in (1, 3, 5, 7):
                for light in (-1, 1):
                    state = state_of([cabin(place, light)], [(1, 0, 4, 0), (2, 4, 0, 0)])
                    self.assertTurn(court, state, [], [cabin(place + light, light)], state[1], [])

    def test_with_somebody_aboard(self):
        for sort in SORTS:
            court = court_of(house(sort))
            for light, goal in ((1, 4), (-1, 0)):
                state = state_of([cabin(3, light, 0, 0, [(5, goal)])])
                self.assertTurn(court, state, [], [cabin(3 + light, light, 0, 0, [(5, goal)])], [], [])

    def test_free_away_from_a_goal(self):
        state = state_of([cabin(3, 1, 0, 0, [(5, 0)])])
        self.assertTurn(court_of(house()), state, [], [cabin(4, 1, 0, 0, [(5, 0)])], [], [])


class Words(CourtCase):
    def test_each_word_of_an_empty_cabin(self):
        for sort in SORTS:
            for light in (-1, 0, 1):
                expected = {
                    "o": cabin(4, light, 3), "x": cabin(4, 0, 3), "u": cabin(5, 1), "d": cabin(3, -1), "s": cabin(4),
                }
                for letter in LETTERS:
                    court = court_of(house(sort), "table " + letter * 36)
                    self.assertTurn(court, state_of([cabin(4, light)]), [], [expected[letter]], [], [])

    def test_each_word_with_somebody_aboard(self):
        for letter in LETTERS:
            aboard = [(1, 4)]
            free = {
                "o": cabin(4, 1, 3, 0, aboard), "x": cabin(4, 0, 3, 0, aboard), "u": cabin(5, 1, 0, 0, aboard),
                "d": cabin(3, -1, 0, 0, aboard), "s": cabin(4, 1, 0, 0, aboard),
            }
            way = dict(free, x=free["o"], d=free["s"])
            for sort, expected in (("free", free), ("way", way)):
                court = court_of(house(sort), "table " + letter * 36)
                self.assertTurn(court, state_of([cabin(4, 1, 0, 0, aboard)]), [], [expected[letter]], [], [])

    def test_the_ends_of_the_house(self):
        for sort in SORTS:
            court = court_of(house(sort), "table " + "u" * 36)
            self.assertTurn(court, state_of([cabin(8, 1)]), [], [cabin(8)], [], [])
            court = court_of(house(sort), "table " + "d" * 36)
            self.assertTurn(court, state_of([cabin(0, -1)]), [], [cabin(0)], [], [])

    def test_each_rule(self):
        rider = (1, 0, 1, 0)
        other = (2, 3, 1, 0)
        for rule, told, waiting, behind in (
            ("sweep", cabin(4, 1), [rider, other], cabin(5, 1)), ("sweep", cabin(4, -1), [rider, other], cabin(3, -1)),
            ("sweep", cabin(4, 1), [], cabin(4)), ("homing", cabin(4, 1), [], cabin(3, -1)),
            ("homing", cabin(0, 1), [], cabin(0)), ("nearest", cabin(4, -1), [rider, other], cabin(5, 1)),
            ("nearest", cabin(4, 1), [rider], cabin(3, -1)), ("shuttle", cabin(4), [], cabin(5, 1)),
            ("shuttle", cabin(8, 1), [], cabin(7, -1)), ("shuttle", cabin(0, -1), [], cabin(1, 1)),
            ("table " + "s" * 36, cabin(4, 1), [rider], cabin(4)),
        ):
            for sort in SORTS:
                self.assertTurn(court_of(house(sort), rule), state_of([told], waiting), [], [behind], waiting, [])

    def test_only_riders_dealt_to_the_lift_are_seen(self):
        court = court_of("5 free; 0 2 1 plain; 0 2 1 plain", dealer=nobody)
        waiting = [(1, 4, 0, 1), (2, 0, 1, 0), (3, 2, 1, -1)]
        state = state_of([cabin(4), cabin(4)], waiting)
        self.assertTurn(court, state, [], [cabin(3, -1), cabin(5, 1)], waiting, [])

    def test_a_full_cabin_passes_those_that_wait(self):
        aboard = [(8, 4), (9, 4)]
        for sort in SORTS:
            state = state_of([cabin(4, 1, 0, 0, aboard)], [(1, 2, 3, 0)])
            self.assertTurn(court_of(house(sort)), state, [], [cabin(5, 1, 0, 0, aboard)], state[1], [])

    def test_the_other_way_alone_waits_here(self):
        state = state_of([cabin(4, 1)], [(1, 2, 0, 0)])
        self.assertTurn(court_of(house("way")), state, [], [cabin(4, 0, 3)], state[1], [])
        self.assertTurn(court_of(house("free")), state, [], [cabin(4, 1, 3)], state[1], [])


class Marked(CourtCase):
    def test_a_stuck_lift_stays_as_it_is(self):
        for sort in SORTS:
            for marks in (1, 3):
                for told in (
                    cabin(3, 1, 0, marks, [(1, 4)]), cabin(4, 1, 2, marks, [(1, 2)]), cabin(4, -1, 0, marks),
                    cabin(0, 0, 1, marks), cabin(8, 1, 0, marks, [(1, 4)]), cabin(7, -1, 0, marks),
                ):
                    court = court_of(house(sort), "shuttle")
                    for deeds in ([], [("block", 0)]):
                        self.assertTurn(court, state_of([told]), deeds, [told], [], [])
                        self.assertTurn(court, state_of([told], fire=True), deeds, [told], [], [])

    def test_stuck_in_this_very_turn(self):
        told = cabin(4, 1, 2, 0, [(1, 2)])
        behind = cabin(4, 1, 2, 1, [(1, 2)])
        self.assertTurn(court_of(house()), state_of([told]), [("stick", 0)], [behind], [], [])

    def test_free_in_this_very_turn(self):
        told = cabin(4, 1, 2, 1, [(1, 2)])
        log = [("out", 1, 0, 2)]
        self.assertTurn(court_of(house()), state_of([told]), [("free", 0)], [cabin(4, 1, 1)], [], log)
        told = cabin(4, 1, 2, 3, [(1, 2)])
        self.assertTurn(court_of(house()), state_of([told]), [("free", 0)], [cabin(4, 1, 1, 2)], [], log)

    def test_a_lift_taken_for_goods_does_its_turn(self):
        for sort in SORTS:
            court = court_of(house(sort))
            riders = [(5, 2, 4, -1), (6, 0, 1, -1)]
            for told, behind, log in (
                (cabin(3, 1, 0, 2, [(1, 4)]), cabin(4, 1, 0, 2, [(1, 4)]), []),
                (cabin(4, 1, 2, 2, [(1, 2)]), cabin(4, 1, 1, 2), [("out", 1, 0, 2)]),
                (cabin(4, 1, 0, 2, [(1, 4)]), cabin(5, 1, 0, 2, [(1, 4)]), []),
                (cabin(8, 1, 0, 2, [(1, 4)]), cabin(8, 1, 3, 2, [(1, 4)]), []),
                (cabin(4, 1, 0, 2), cabin(4, 0, 0, 2), []),
            ):
                self.assertTurn(court, state_of([told], riders), [], [behind], riders, log)
                unmarked = told[:3] + (0,) + told[4:]
                self.assertTurn(court, state_of([unmarked], riders), [("goods", 0)], [behind], riders, log)

    def test_a_block_at_a_lift_taken_for_goods(self):
        told = cabin(4, 1, 1, 2)
        self.assertTurn(court_of(house()), state_of([told]), [("block", 0)], [cabin(4, 1, 3, 2)], [], [])

    def test_the_others_go_on(self):
        court = court_of("5 free; 0 2 1 plain; 0 2 1 plain; 0 2 1 plain")
        state = state_of([cabin(3, 1, 0, 1), cabin(3, 1), cabin(3, -1, 0, 2)])
        self.assertTurn(court, state, [], [cabin(3, 1, 0, 1), cabin(4, 1), cabin(2, -1, 0, 2)], [], [])


class InAFire(CourtCase):
    def assertBurns(self, told, behind, log=(), deeds=()):
        for sort, kind, rule in itertools.product(SORTS, KINDS, ("sweep", "shuttle", "table " + "o" * 36)):
            court = court_of(house(sort, kind), rule)
            self.assertTurn(court, state_of([told], fire=True), list(deeds), [behind], [], list(log))

    def test_open_below_all_step_out(self):
        for light, count in itertools.product((-1, 0, 1), (1, 2, 3)):
            told = cabin(0, light, count, 0, [(7, 4), (2, 0)])
            log = [("out", 7, 0, 0), ("out", 2, 0, 0)]
            for deeds in ((), (("block", 0),)):
                self.assertBurns(told, cabin(0, 0, 3), log, deeds)
                self.assertBurns(cabin(0, light, count), cabin(0, 0, 3), (), deeds)

    def test_open_elsewhere_it_shuts_and_nobody_steps(self):
        for place, light, count in itertools.product((2, 4, 8), (-1, 0, 1), (1, 2, 3)):
            aboard = [(7, place // 2), (2, 0)]
            self.assertBurns(cabin(place, light, count, 0, aboard), cabin(place, light, 0, 0, aboard))
            self.assertBurns(cabin(place, light, count), cabin(place, light, 0))

    def test_open_elsewhere_and_blocked_its_count_stays(self):
        for place, light, count in itertools.product((2, 4, 8), (-1, 0, 1), (1, 2, 3)):
            told = cabin(place, light, count, 0, [(7, place // 2)])
            self.assertBurns(told, told, (), [("block", 0)])

    def test_shut_below_it_opens(self):
        for light in (-1, 0, 1):
            for aboard in ((), [(7, 0), (2, 3)]):
                for deeds in ((), (("block", 0),)):
                    self.assertBurns(cabin(0, light, 0, 0, aboard), cabin(0, 0, 3, 0, aboard), (), deeds)

    def test_shut_elsewhere_it_goes_down(self):
        for place in range(1, 9):
            for light in (-1, 1) if place % 2 else (-1, 0, 1):
                for aboard in ((), [(7, 4), (2, 0)]):
                    for deeds in ((), (("block", 0),)):
                        behind = cabin(place - 1, -1, 0, 0, aboard)
                        self.assertBurns(cabin(place, light, 0, 0, aboard), behind, (), deeds)

    def test_goods_go_as_others_and_keep_the_mark(self):
        self.assertBurns(cabin(3, 1, 0, 2), cabin(2, -1, 0, 2))
        self.assertBurns(cabin(0, 1, 0, 2, [(1, 3)]), cabin(0, 0, 3, 2, [(1, 3)]))
        self.assertBurns(cabin(0, 1, 1, 2, [(1, 3)]), cabin(0, 0, 3, 2), [("out", 1, 0, 0)])

    def test_in_the_turn_in_which_it_is_told(self):
        court = court_of(house("way"))
        waiting = [(5, 2, 4, 0), (6, 0, 1, 0)]
        sent = [("sent", 5), ("sent", 6)]
        for told, behind, log in (
            (cabin(4, 1, 2, 0, [(1, 2)]), cabin(4, 1, 0, 0, [(1, 2)]), []), (cabin(3, 1), cabin(2, -1), []),
            (cabin(0, -1, 1, 0, [(1, 0)]), cabin(0, 0, 3), [("out", 1, 0, 0)]), (cabin(0), cabin(0, 0, 3), []),
        ):
            state = state_of([told], waiting)
            self.assertTurn(court, state, [("fire",)], [behind], [], sent + log, fire=True)

    def test_the_lifts_in_their_order(self):
        court = court_of("5 way; 0 2 1 plain; 0 2 2 hasty; 0 2 4 slow")
        cabins = [cabin(0, 0, 1, 0, [(3, 1)]), cabin(4, -1, 2, 0, [(2, 0)]), cabin(0, 0, 1, 0, [(1, 1), (0, 4)])]
        behind = [cabin(0, 0, 1), cabin(4, -1, 0, 0, [(2, 0)]), cabin(0, 0, 4)]
        log = [("out", 3, 0, 0), ("out", 1, 2, 0), ("out", 0, 2, 0)]
        self.assertTurn(court, state_of(cabins, fire=True), [], behind, [], log)


class ADay(CourtCase):
    def test_one_rider_from_coming_to_stepping_out(self):
        court = court_of("3 way; 0 1 1 plain")
        steps = [
            ([come(4, 1, 2)], cabin(1, 1), [(4, 1, 2, 0)], [("deal", 4, 0)]), ([], cabin(2, 1), [(4, 1, 2, 0)], []),
            ([], cabin(2, 1, 1), [(4, 1, 2, 0)], []), ([], cabin(2, 1, 0, 0, [(4, 2)]), [], [("in", 4, 0, 1)]),
            ([], cabin(3, 1, 0, 0, [(4, 2)]), [], []), ([], cabin(4, 1, 0, 0, [(4, 2)]), [], []),
            ([], cabin(4, 1, 1, 0, [(4, 2)]), [], []), ([], cabin(4, 1), [], [("out", 4, 0, 2)]),
            ([], cabin(4), [], []),
        ]
        state = court.begin()
        for deeds, behind, waiting, log in steps:
            self.assertTurn(court, state, deeds, [behind], waiting, log)
            state = court.turn(state, deeds)[0]

    def test_a_fire_on_the_way(self):
        court = court_of("3 way; 0 1 2 plain")
        aboard = [(4, 2)]
        steps = [
            ([("fire",)], cabin(2, -1, 0, 0, aboard), True, []), ([("calm",)], cabin(1, -1, 0, 0, aboard), True, []),
            ([], cabin(0, -1, 0, 0, aboard), True, []), ([("calm",)], cabin(0, 0, 2, 0, aboard), True, []),
            ([("calm",)], cabin(0, 0, 2), True, [("out", 4, 0, 0)]), ([], cabin(0, 0, 2), True, []),
            ([("calm",)], cabin(0, 0, 1), False, []), ([], cabin(0), False, []),
        ]
        state = state_of([cabin(3, 1, 0, 0, aboard)])
        for deeds, behind, fire, log in steps:
            self.assertTurn(court, state, deeds, [behind], [], log, fire=fire)
            state = court.turn(state, deeds)[0]


if __name__ == "__main__":
    unittest.main()
