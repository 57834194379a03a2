"""Points 28 and 29: ills read from texts, and the way to an ill state."""

import copy
import itertools
import random
import unittest

from chances import drawn_house, drawn_state
from court_case import CourtCase, cabin, court_of, state_of
from helpers import SIGNS, off_by_one_sign
from liftcourt.errors import CourtError, NoFloor, NoIll, NoRide, TooMany
from liftcourt.graphs import graph_of
from liftcourt.houses import read_house
from liftcourt.ills import ill_of, way_to
from restated_graphs import expected_graph, expected_ill, expected_parts, played
from small_houses import STAYING, small_houses

HOUSE = read_house("5 free 3 4; 0 2 2 plain; 4 3 2 hasty")
TWO = "2 free; 0 1 1 plain"


def drawn_part(source, house):
    name = source.choice(("crowd", "full", "open", "idle", "away"))
    lift = source.randrange(len(house[1]))
    if name == "crowd":
        return f"crowd {source.randrange(10)}"
    return f"open {lift} {source.randrange(house[0])}" if name == "open" else f"{name} {lift}"


class IllCase(CourtCase):
    def assertTells(self, text, state, told, house=HOUSE):
        before = copy.deepcopy(state)
        self.assertIs(ill_of(text, house)(state), told, (text, state))
        self.assertEqual(state, before)
        self.assertIs(expected_ill(text, house)(state), told)

    def assertNoIll(self, text, house=HOUSE):
        with self.assertRaises(CourtError) as caught:
            ill_of(text, house)
        self.assertIs(type(caught.exception), NoIll, text)
        self.assertIs(expected_parts(text, house), None, text)


class Parts(IllCase):
    def two(self, one=None, other=None, waiting=()):
        return state_of([one or cabin(0), other or cabin(8)], waiting)

    def test_crowd(self):
        for many in range(5):
            waiting = [(tag, 0, 1, tag % 2) for tag in range(many)]
            state = self.two(cabin(0, 0, 0, 0, [(100, 3)]), None, waiting)
            for least in range(7):
                self.assertTells(f"crowd {least}", state, many >= least)
        self.assertTells("crowd 999999999", self.two(), False)
        self.assertTells("crowd 0", self.two(), True)

    def test_crowd_counts_whomever_they_are_dealt_to(self):
        waiting = [(1, 0, 1, -1), (2, 0, 1, 0), (3, 4, 1, 1)]
        self.assertTells("crowd 3", self.two(waiting=waiting), True)
        self.assertTells("crowd 4", self.two(waiting=waiting), False)

    def test_full(self):
        riders = [(tag, 1) for tag in range(3)]
        for many in range(3):
            self.assertTells("full 0", self.two(cabin(0, 0, 0, 0, riders[:many])), many == 2)
        for many in range(4):
            self.assertTells("full 1", self.two(other=cabin(8, 0, 0, 0, riders[:many])), many == 3)
        # Who waits is not aboard, and who is aboard another lift is not aboard this one.
        waiting = [(8, 0, 1, 0), (9, 0, 1, 0)]
        self.assertTells("full 0", self.two(None, cabin(8, 0, 0, 0, riders), waiting), False)

    def test_open(self):
        for place, count in itertools.product(range(0, 9, 2), range(3)):
            for floor in range(5):
                told = count > 0 and place == 2 * floor
                self.assertTells(f"open 0 {floor}", self.two(cabin(place, 0, count)), told)
                self.assertTells(f"open 1 {floor}", self.two(None, cabin(place, 1, count)), told)
        for place in range(1, 9, 2):
            for floor in range(5):
                self.assertTells(f"open 0 {floor}", self.two(cabin(place, 1)), False)

    def test_idle(self):
        rider = (1, 3, 2, 0)
        self.assertTells("idle 0", self.two(waiting=[rider]), True)
        self.assertTells("idle 1", self.two(waiting=[rider]), False)
        self.assertTells("idle 1", self.two(waiting=[rider, (2, 0, 1, 1)]), True)
        self.assertTells("idle 0", self.two(), False)
        self.assertTells("idle 0", self.two(waiting=[(1, 3, 2, -1), (2, 0, 1, 1)]), False)
        self.assertTells("idle 0", self.two(cabin(0, 0, 1), None, [rider]), False)
        for light in (-1, 1):
            self.assertTells("idle 0", self.two(cabin(4, light), None, [rider]), False)
            self.assertTells("idle 0", self.two(cabin(3, light), None, [rider]), False)
        # Who is aboard is not looked at.
        self.assertTells("idle 0", self.two(cabin(4, 0, 0, 0, [(5, 0)]), None, [rider]), True)

    def test_away(self):
        for place in range(9):
            for light in (-1, 1) if place % 2 else (-1, 0, 1):
                for goal in range(5):
                    ahead = 2 * goal == place or (light == 1 and 2 * goal > place) or (light == -1 and 2 * goal < place)
                    self.assertTells("away 0", self.two(cabin(place, light, 0, 0, [(1, goal)])), not ahead)
                    self.assertTells("away 1", self.two(None, cabin(place, light, 0, 0, [(1, goal)])), not ahead)

    def test_away_of_one_among_several(self):
        self.assertTells("away 1", self.two(None, cabin(4, 1, 0, 0, [(1, 4), (2, 1), (3, 2)])), True)
        self.assertTells("away 1", self.two(None, cabin(4, 1, 0, 0, [(1, 4), (2, 3), (3, 2)])), False)
        self.assertTells("away 1", self.two(None, cabin(4, -1, 0, 0, [(1, 2), (2, 0), (3, 3)])), True)
        self.assertTells("away 0", self.two(cabin(4, 0, 0, 0, [(1, 2), (2, 2)])), False)
        self.assertTells("away 0", self.two(cabin(4, 0, 0, 0, [(1, 2), (2, 3)])), True)

    def test_away_of_nobody(self):
        for place, light in ((4, -1), (4, 0), (4, 1), (3, 1), (3, -1)):
            self.assertTells("away 0", self.two(cabin(place, light), None, [(1, 0, 4, 0)]), False)

    def test_marks_and_fire_are_not_looked_at(self):
        for marks, fire in itertools.product(range(4), (True, False)):
            state = state_of([cabin(4, 0, 2, marks, [(1, 0), (2, 2)]), cabin(8)], (), 0, fire)
            for part in ("full 0", "open 0 2", "away 0"):
                self.assertTells(part, state, True)

    def test_drawn_states(self):
        source = random.Random(28)
        seen = {}
        for _ in range(1500):
            house = drawn_house(source)
            state = drawn_state(source, house)
            text = " and ".join(drawn_part(source, house) for _ in range(source.choice((1, 1, 1, 2, 3))))
            told = expected_ill(text, house)(state)
            self.assertTells(text, state, told, house)
            name = text.split()[0] if " and " not in text else "and"
            seen[name, told] = seen.get((name, told), 0) + 1
        names = ("crowd", "full", "open", "idle", "away", "and")
        self.assertEqual(sorted(seen), sorted(itertools.product(names, (True, False))))


class Several(IllCase):
    def test_each_part_must_be(self):
        state = state_of([cabin(4, 1, 2, 0, [(1, 3), (2, 4)]), cabin(8)], [(3, 0, 1, 1), (4, 0, 1, 0)])
        so = ("crowd 2", "full 0", "open 0 2", "idle 1", "crowd 0")
        not_so = ("crowd 3", "full 1", "open 0 1", "idle 0", "away 0", "open 1 4")
        for one, other in itertools.product(so, so):
            self.assertTells(f"{one} and {other}", state, True)
        for one, other in itertools.product(so, not_so):
            self.assertTells(f"{one} and {other}", state, False)
            self.assertTells(f"{other} and {one}", state, False)
            self.assertTells(f"{one} and {one} and {other} and {one}", state, False)
        self.assertTells(" and ".join(so), state, True)
        self.assertTells(" and ".join(so + not_so), state, False)

    def test_many_parts(self):
        state = state_of([cabin(0), cabin(8)])
        self.assertTells(" and ".join(["crowd 0"] * 150), state, True)
        self.assertTells(" and ".join(["crowd 0"] * 149 + ["crowd 1"]), state, False)

    def test_an_ill_may_be_asked_again(self):
        ill = ill_of("crowd 1 and idle 0", HOUSE)
        idle = state_of([cabin(0), cabin(8)], [(1, 3, 0, 0)])
        for _ in range(3):
            self.assertIs(ill(idle), True)
            self.assertIs(ill(state_of([cabin(0), cabin(8)])), False)


class NoIlls(IllCase):
    def test_texts_that_are_none(self):
        for text in (
            "", " ", "and", " and ", "crowd", "crowd ", "crowd a", "crowd 1 2", "crowd -1", "crowd 01", "Crowd 1",
            "crowd 1000000000", "crowds 1", "full", "full 0 0", "full a", "open", "open 0", "open 0 0 0", "open 0 a",
            "open a 0", "open 0,0", "idle", "idle 0 0", "away", "away 0 0", "idle  0", " idle 0", "idle 0 ", "shut 0",
            "open 0  0", "crowd 1 and", "and crowd 1", " and crowd 1", "crowd 1 and ", "crowd 1  and full 0",
            "crowd 1 and  full 0",
            "crowd 1 and and full 0", "crowd 1 and full", "crowd 1 or full 0", "crowd 1, full 0", "crowd 1 And full 0",
            "crowd 1and full 0", "crowd 1 andfull 0", "crowd 1\nand full 0", "crowd 1 and\nfull 0", "crowd 1\n",
            "\ncrowd 1", "crowd\n1", "crowd 1 full 0", "not full 0", "full 0 and away 0 and", "crowd +1", "full 0.0",
            "full 00", "open 0 00", "open 00 0", "idle 1_", "crowd 1_0", "0", "crowd 0x1", "crowd " + "1" * 1000,
        ):
            self.assertNoIll(text)

    def test_lifts_that_the_house_has_not(self):
        for lift in ("2", "3", "10", "999999999", "-1"):
            for part in (f"full {lift}", f"open {lift} 0", f"idle {lift}", f"away {lift}"):
                self.assertNoIll(part)
                self.assertNoIll("crowd 1 and " + part)
                self.assertNoIll(part + " and crowd 1")

    def test_floors_that_the_house_has_not(self):
        for floor in ("5", "6", "10", "999999999", "-1"):
            self.assertNoIll(f"open 0 {floor}")
            self.assertNoIll(f"open 1 {floor} and crowd 1")

    def test_the_houses_own_bounds(self):
        large = read_house("8 way; 0 1 1 plain; 1 1 1 plain; 2 1 1 plain")
        state = state_of([cabin(0), cabin(2), cabin(14, 0, 1)])
        self.assertTells("open 2 7", state, True, large)
        self.assertNoIll("open 2 8", large)
        self.assertNoIll("open 3 7", large)
        self.assertNoIll("full 1", read_house(TWO))
        self.assertNoIll("open 0 2", read_house(TWO))

    def test_off_by_one_sign(self):
        source = random.Random(29)
        states = [drawn_state(source, HOUSE) for _ in range(4)]
        read = 0
        texts = ("crowd 2", "full 1", "open 1 4", "idle 0", "away 1", "crowd 1 and idle 0")
        for text in texts:
            for other in off_by_one_sign(text):
                if expected_parts(other, HOUSE) is None:
                    self.assertNoIll(other)
                    continue
                read += 1
                for state in states:
                    self.assertTells(other, state, expected_ill(other, HOUSE)(state))
        self.assertGreater(read, 30)

    def test_single_signs(self):
        for sign in SIGNS:
            self.assertNoIll(sign)


class Ways(IllCase):
    def assertWay(self, court, kinds, ill, most=1000):
        """The answer, once it is found to be what the points' words tell."""
        before = list(kinds)
        answer = way_to(court, kinds, ill, most)
        self.assertEqual(kinds, before)
        self.assertIs(type(answer), tuple)
        states, ways, firsts = expected_graph(court, kinds)
        wrong = [state for state in states if ill(state)]
        if not wrong:
            self.assertEqual(answer, ("safe", len(states)))
            self.assertIs(type(answer[1]), int)
            return answer
        word, row = answer
        self.assertEqual(word, "ill")
        self.assertIs(type(row), list)
        self.assertEqual([type(choice) for choice in row], [int] * len(row))
        met = played(court, kinds, row)
        self.assertEqual(met[-1], wrong[0])
        self.assertEqual([ill(state) for state in met], [False] * len(row) + [True])
        # The states that fewer choices lead to lie ahead in the order, and none of them is ill.
        self.assertEqual(row, self.row_by(firsts, states.index(wrong[0])))
        return answer

    def row_by(self, firsts, number):
        return [] if firsts[number] is None else self.row_by(firsts, firsts[number][0]) + [firsts[number][1]]

    def test_by_hand(self):
        court = court_of(TWO)
        house = court.house
        for text, row in (
            ("crowd 1", [0]), ("open 0 0", [0]), ("full 0", [0, -1]), ("open 0 1", [0, -1, -1, -1, -1]),
            ("open 0 0 and full 0", None), ("crowd 2", None), ("idle 0", None), ("away 0", [0, -1]),
            ("full 0 and open 0 1", [0, -1, -1, -1, -1]),
        ):
            told = ("safe", 12) if row is None else ("ill", row)
            self.assertEqual(self.assertWay(court, [(0, 1)], ill_of(text, house)), told, text)

    def test_idle_where_the_lift_stays(self):
        court = court_of(TWO, STAYING)
        kinds = [(1, 0), (0, 1)]
        self.assertEqual(self.assertWay(court, kinds, ill_of("idle 0 and crowd 2", court.house)), ("ill", [0, 1]))
        self.assertEqual(self.assertWay(court, kinds, ill_of("idle 0", court.house)), ("ill", [0]))
        self.assertEqual(self.assertWay(court, [(1, 0)], ill_of("crowd 2", court.house)), ("safe", 2))

    def test_the_first_state_is_ill(self):
        for court, kinds in small_houses():
            self.assertEqual(self.assertWay(court, kinds, ill_of("crowd 0", court.house)), ("ill", []))

    def test_small_houses(self):
        words = []
        for court, kinds in small_houses():
            lifts = len(court.house[1])
            texts = [f"crowd {many}" for many in range(1, len(kinds) + 2)]
            texts += [f"{name} {lift}" for name in ("full", "idle", "away") for lift in range(lifts)]
            texts += [f"open {lift} {floor}" for lift in range(lifts) for floor in range(court.house[0])]
            texts += [f"full {lifts - 1} and crowd 1", "open 0 0 and away 0", f"idle 0 and idle {lifts - 1}"]
            words += [self.assertWay(court, kinds, ill_of(text, court.house))[0] for text in texts]
        self.assertGreater(min(words.count("ill"), words.count("safe")), 20)

    def test_an_ill_of_the_askers_own(self):
        court = court_of("3 way; 0 2 1 slow")
        kinds = [(0, 1), (1, 0), (2, 0)]
        states = graph_of(court, kinds, 1000)[0]
        for number in (0, 1, 7, len(states) // 2, len(states) - 1):
            self.assertWay(court, kinds, lambda state: state == states[number])
        handed = []
        self.assertEqual(way_to(court, kinds, lambda state: handed.append(state) or False, 1000), ("safe", len(states)))
        self.assertEqual(sorted(set(handed)), sorted(states))
        high = self.assertWay(court, kinds, lambda state: state[0][0][0] == 4 and len(state[1]) == 2)
        self.assertEqual(high[0], "ill")

    def test_just_so_many_states(self):
        court = court_of(TWO)
        self.assertEqual(way_to(court, [(0, 1)], ill_of("crowd 2", court.house), 12), ("safe", 12))
        self.assertEqual(way_to(court, [(0, 1)], ill_of("crowd 1", court.house), 12), ("ill", [0]))

    def test_too_many_also_where_one_found_is_ill(self):
        court = court_of(TWO)
        for text in ("crowd 0", "crowd 1", "crowd 2", "open 0 1"):
            for most in (1, 2, 6, 11):
                with self.assertRaises(TooMany) as caught:
                    way_to(court, [(0, 1)], ill_of(text, court.house), most)
                self.assertEqual(caught.exception.most, most)

    def test_kinds_ahead_of_all_else(self):
        court = court_of(TWO)
        for ill in (ill_of("crowd 0", court.house), ill_of("crowd 9", court.house)):
            for most in (1, 1000):
                with self.assertRaises(NoFloor) as caught:
                    way_to(court, [(0, 1), (7, 7), (0, 0)], ill, most)
                self.assertEqual(caught.exception.floor, 7)
                with self.assertRaises(NoRide):
                    way_to(court, [(0, 1), (0, 0), (7, 7)], ill, most)

    def test_a_locked_goal(self):
        court = court_of("2 free 1; 0 1 1 plain")
        self.assertEqual(self.assertWay(court, [(0, 1)], ill_of("crowd 1", court.house)), ("safe", 1))

    def test_what_is_told_is_the_askers_own(self):
        court = court_of(TWO)
        ill = ill_of("full 0", court.house)
        way_to(court, [(0, 1)], ill, 100)[1].append(5)
        self.assertEqual(way_to(court, [(0, 1)], ill, 100), ("ill", [0, -1]))


if __name__ == "__main__":
    unittest.main()
