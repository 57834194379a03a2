"""Points 26 and 27: kinds, choices and where they lead; the graph, its order, and the row to a state."""

import copy
import random
import unittest

from chances import drawn_house, drawn_ride
from court_case import CourtCase, cabin, court_of, state_of
from liftcourt.courts import Court
from liftcourt.dealing import dealer_of
from liftcourt.errors import CourtError, NoFloor, NoRide, TooMany
from liftcourt.graphs import choices, graph_of, led, present, row_to
from liftcourt.ills import way_to
from liftcourt.ranks import longest
from liftcourt.rules import rule_of
from restated_graphs import expected_choices, expected_graph, expected_led, kind_in, played
from small_houses import STAYING, small_houses

FAR = (10 ** 30, -(10 ** 30), 10 ** 5000, -(10 ** 5000))
TWO = "2 free; 0 1 1 plain"
PAIR = "2 free; 0 1 1 plain; 1 1 1 plain"


class Counting(Court):
    """A court that counts its turns."""

    def __init__(self, court):
        Court.__init__(self, court.house, court.rule, court.dealer)
        self.many = 0

    def turn(self, state, deeds):
        self.many += 1
        return Court.turn(self, state, deeds)


def never_ill(state):
    return False


# All that ask the kinds: each is handed the court, the kinds and most.
ASKING = (
    graph_of, lambda court, kinds, most: way_to(court, kinds, never_ill, most),
    lambda court, kinds, most: way_to(court, kinds, lambda state: True, most),
    lambda court, kinds, most: longest(court, kinds, 0, most),
)


class Kinds(CourtCase):
    def assertKindsRefused(self, kinds, error, floor=None, text="4 free; 0 1 1 plain"):
        for ask in ASKING:
            for most in (1, 1000):
                before = list(kinds)
                court = Counting(court_of(text))
                with self.assertRaises(CourtError) as caught:
                    ask(court, kinds, most)
                self.assertIs(type(caught.exception), error)
                if error is NoFloor:
                    self.assertIs(type(caught.exception.floor), int)
                    self.assertEqual(caught.exception.floor, floor)
                self.assertEqual(kinds, before)
                self.assertEqual(court.many, 0)

    def test_a_start_that_is_no_floor(self):
        for floor in (4, 5, -1, -4) + FAR:
            for goal in (0, 3, floor, 9):
                self.assertKindsRefused([(floor, goal)], NoFloor, floor)

    def test_a_goal_that_is_no_floor(self):
        for floor in (4, 5, -1, -4) + FAR:
            for start in (0, 3):
                self.assertKindsRefused([(start, floor)], NoFloor, floor)

    def test_one_floor_as_start_and_goal(self):
        for floor in range(4):
            self.assertKindsRefused([(floor, floor)], NoRide)

    def test_kind_by_kind(self):
        wrong = {(9, 0): (NoFloor, 9), (0, 8): (NoFloor, 8), (7, 7): (NoFloor, 7), (2, 2): (NoRide,),
                 (-1, 5): (NoFloor, -1)}
        for one, refusal in wrong.items():
            for other in wrong:
                self.assertKindsRefused([one, other], *refusal)
                self.assertKindsRefused([(0, 1), one, (3, 2), other], *refusal)

    def test_the_last_of_four(self):
        self.assertKindsRefused([(0, 1), (1, 0), (2, 3), (3, 3)], NoRide)
        self.assertKindsRefused([(0, 1), (1, 0), (2, 3), (3, 4)], NoFloor, 4)

    def test_the_houses_own_floors(self):
        self.assertKindsRefused([(0, 2)], NoFloor, 2, TWO)
        self.assertKindsRefused([(2, 0)], NoFloor, 2, TWO)
        self.assertEqual(len(graph_of(court_of("3 free; 0 1 1 plain"), [(0, 2)], 1000)), 3)


class Present(CourtCase):
    def test_waiting_aboard_and_neither(self):
        state = state_of([cabin(2, 0, 0, 0, [(1, 0), (3, 3)]), cabin(0)], [(0, 1, 2, 0)])
        self.assertEqual([present(state, kind) for kind in range(5)], [True, True, False, True, False])
        for kind in range(5):
            self.assertIs(type(present(state, kind)), bool)

    def test_in_a_cabin_that_is_not_the_first(self):
        state = state_of([cabin(0), cabin(1, 1, 0, 0, [(2, 1)])])
        self.assertEqual([present(state, kind) for kind in range(4)], [False, False, True, False])

    def test_goals_starts_and_lifts_are_no_kinds(self):
        state = state_of([cabin(2, 0, 0, 0, [(0, 3)]), cabin(0), cabin(0)], [(1, 3, 3, 2)])
        self.assertEqual([present(state, kind) for kind in range(4)], [True, True, False, False])

    def test_nobody(self):
        self.assertIs(present(court_of(TWO).begin(), 0), False)


class Choices(CourtCase):
    def assertChoices(self, state, kinds, told):
        answer = choices(state, kinds)
        self.assertEqual(answer, told)
        self.assertIs(type(answer), list)
        self.assertEqual([type(choice) for choice in answer], [int] * len(told))
        self.assertEqual(expected_choices(state, kinds), told)

    def test_nobody_is_there(self):
        first = court_of("4 free; 0 3 1 plain").begin()
        kinds = [(0, 1), (1, 0), (2, 3), (3, 0)]
        for many in range(1, 5):
            self.assertChoices(first, kinds[:many], list(range(-1, many)))

    def test_kinds_that_wait_and_kinds_that_are_aboard(self):
        kinds = [(0, 1), (1, 0), (2, 3), (3, 0)]
        self.assertChoices(state_of([cabin(1, 1)], [(0, 0, 1, 0)]), kinds, [-1, 1, 2, 3])
        self.assertChoices(state_of([cabin(1, 1, 0, 0, [(2, 3)])], [(0, 0, 1, -1)]), kinds, [-1, 1, 3])
        self.assertChoices(state_of([cabin(1, 1, 0, 0, [(3, 0), (1, 0)])]), kinds, [-1, 0, 2])
        self.assertChoices(state_of([cabin(0), cabin(1, 1, 0, 0, [(3, 0)])]), kinds, [-1, 0, 1, 2])
        waiting = [(3, 3, 0, 0), (1, 1, 0, 0)]
        self.assertChoices(state_of([cabin(1, 1, 0, 0, [(2, 3), (0, 1)])], waiting), kinds, [-1])

    def test_each_call_tells_a_list_of_its_own(self):
        first = court_of(TWO).begin()
        choices(first, [(0, 1)]).append(9)
        self.assertEqual(choices(first, [(0, 1)]), [-1, 0])


class Led(CourtCase):
    def assertLed(self, court, kinds, state, choice, behind):
        before = copy.deepcopy((kinds, state))
        self.assertEqual(led(court, kinds, state, choice), behind)
        self.assertEqual((kinds, state), before)
        self.assertEqual(expected_led(court, kinds, state, choice), behind)
        self.assertState(court, behind)

    def test_nobody_comes(self):
        court = court_of("3 way; 0 2 1 plain")
        self.assertLed(court, [(1, 2)], court.begin(), -1, court.begin())
        riding = state_of([cabin(1, 1, 0, 0, [(0, 2)])])
        self.assertLed(court, [(1, 2)], riding, -1, state_of([cabin(2, 1, 0, 0, [(0, 2)])]))

    def test_one_of_a_kind_comes(self):
        court = court_of("3 way; 0 2 1 plain")
        kinds = [(1, 2), (0, 2), (2, 0)]
        self.assertLed(court, kinds, court.begin(), 0, state_of([cabin(1, 1)], [(0, 1, 2, 0)]))
        self.assertLed(court, kinds, court.begin(), 1, state_of([cabin(0, 0, 1)], [(1, 0, 2, 0)]))
        behind = state_of([cabin(2, 1)], [(0, 1, 2, 0), (2, 2, 0, 0)])
        self.assertLed(court, kinds, state_of([cabin(1, 1)], [(0, 1, 2, 0)]), 2, behind)

    def test_a_locked_goal_leads_where_nobody_leads(self):
        court = court_of("3 free 2; 0 1 1 plain")
        kinds = [(0, 2), (0, 1)]
        for state in (court.begin(), state_of([cabin(2, 1, 1, 0, [(1, 1)])]), state_of([cabin(3, 1)], [(1, 0, 1, 0)])):
            self.assertIn(0, choices(state, kinds))
            self.assertLed(court, kinds, state, 0, led(court, kinds, state, -1))

    def test_the_askers_own_dealer_and_rule(self):
        court = court_of(PAIR, "homing", lambda cabins, waiting, rider, last: (0, 0))
        self.assertLed(court, [(1, 0)], court.begin(), 0, state_of([cabin(1, 1), cabin(1, -1)], [(0, 1, 0, 0)], 0))

    def test_every_choice_of_small_houses(self):
        for court, kinds in small_houses():
            for state in graph_of(court, kinds, 1000)[0]:
                for choice in choices(state, kinds):
                    self.assertLed(court, kinds, state, choice, expected_led(court, kinds, state, choice))


class Graphs(CourtCase):
    def assertGraph(self, court, kinds, most=1000):
        """The graph, once it is found to be of the right kinds and what the points' words tell."""
        before = list(kinds)
        graph = graph_of(court, kinds, most)
        self.assertEqual(kinds, before)
        self.assertIs(type(graph), tuple)
        self.assertEqual([type(part) for part in graph], [list] * 3)
        states, ways, firsts = graph
        self.assertEqual({len(part) for part in graph}, {len(states)})
        for leads in ways:
            self.assertIs(type(leads), list)
            for way in leads:
                self.assertIs(type(way), tuple)
                self.assertEqual([type(part) for part in way], [int, int])
        self.assertIs(firsts[0], None)
        for first in firsts[1:]:
            self.assertIs(type(first), tuple)
            self.assertEqual([type(part) for part in first], [int, int])
        for state in states:
            self.assertState(court, state)
        self.assertEqual(graph, expected_graph(court, kinds))
        return graph

    def test_one_kind_and_one_lift(self):
        states, ways, firsts = self.assertGraph(court_of(TWO), [(0, 1)])
        waits, rides = [(0, 0, 1, 0)], [(0, 1)]
        self.assertEqual(states, [
            state_of([cabin(0)]), state_of([cabin(0, 0, 1)], waits), state_of([cabin(0, 0, 0, 0, rides)]),
            state_of([cabin(1, 1, 0, 0, rides)]), state_of([cabin(2, 1, 0, 0, rides)]),
            state_of([cabin(2, 1, 1, 0, rides)]), state_of([cabin(2, 1)]), state_of([cabin(2)]),
            state_of([cabin(1, -1)], waits), state_of([cabin(0, -1)], waits), state_of([cabin(0, -1, 1)], waits),
            state_of([cabin(0, -1, 0, 0, rides)]),
        ])
        self.assertEqual(ways, [
            [(-1, 0), (0, 1)], [(-1, 2)], [(-1, 3)], [(-1, 4)], [(-1, 5)], [(-1, 6)], [(-1, 7), (0, 8)],
            [(-1, 7), (0, 8)], [(-1, 9)], [(-1, 10)], [(-1, 11)], [(-1, 3)],
        ])
        self.assertEqual(firsts, [
            None, (0, 0), (1, -1), (2, -1), (3, -1), (4, -1), (5, -1), (6, -1), (6, 0), (8, -1), (9, -1), (10, -1),
        ])

    def test_two_kinds_and_a_lift_that_stays(self):
        court = court_of(TWO, STAYING)
        one, other = (0, 1, 0, 0), (1, 0, 1, 0)
        stands = [cabin(0)]
        self.assertEqual(self.assertGraph(court, [(1, 0), (0, 1)]), (
            [state_of(stands, waits) for waits in ([], [one], [other], [one, other], [other, one])],
            [[(-1, 0), (0, 1), (1, 2)], [(-1, 1), (1, 3)], [(-1, 2), (0, 4)], [(-1, 3)], [(-1, 4)]],
            [None, (0, 0), (0, 1), (1, 1), (2, 0)],
        ))

    def test_two_lifts(self):
        states, ways, firsts = self.assertGraph(court_of(PAIR), [(0, 1), (1, 0)])
        self.assertEqual(states[:7], [
            state_of([cabin(0), cabin(2)], last=1),
            state_of([cabin(0, 0, 1), cabin(2)], [(0, 0, 1, 0)], 1),
            state_of([cabin(0), cabin(2, 0, 1)], [(1, 1, 0, 1)], 1),
            state_of([cabin(0, 0, 0, 0, [(0, 1)]), cabin(2)], last=1),
            state_of([cabin(0, 0, 0, 0, [(0, 1)]), cabin(2, 0, 1)], [(1, 1, 0, 1)], 1),
            state_of([cabin(0), cabin(2, 0, 0, 0, [(1, 0)])], last=1),
            state_of([cabin(0, 0, 1), cabin(2, 0, 0, 0, [(1, 0)])], [(0, 0, 1, 0)], 1),
        ])
        self.assertEqual(ways[:3], [[(-1, 0), (0, 1), (1, 2)], [(-1, 3), (1, 4)], [(-1, 5), (0, 6)]])
        self.assertEqual(firsts[:7], [None, (0, 0), (0, 1), (1, -1), (1, 1), (2, -1), (2, 0)])

    def test_the_last_dealt_to_tells_states_apart(self):
        states = self.assertGraph(court_of(PAIR, "sweep", "turns"), [(0, 1)])[0]
        self.assertEqual({state[2] for state in states}, {0, 1})
        self.assertGreater(len(states), len({state[:2] for state in states}))

    def test_only_locked_goals(self):
        court = court_of("3 free 1 2; 1 1 1 plain")
        self.assertEqual(self.assertGraph(court, [(0, 1), (0, 2)]), (
            [court.begin()], [[(-1, 0), (0, 0), (1, 0)]], [None],
        ))

    def test_a_locked_goal_beside_another(self):
        court = court_of("3 free 2; 0 1 1 plain")
        beside = self.assertGraph(court, [(0, 2), (0, 1)])
        for leads in beside[1]:
            self.assertEqual(dict(leads)[0], dict(leads)[-1])
        alone = self.assertGraph(court, [(0, 1)])
        self.assertEqual(len(alone[0]), len(beside[0]))

    def test_small_houses(self):
        for court, kinds in small_houses():
            self.assertGraph(court, kinds)

    def test_drawn_houses(self):
        source = random.Random(27)
        many = 0
        while many < 25:
            house = drawn_house(source, 2)
            kinds = [drawn_ride(source, house[0]) for _ in range(source.randint(1, 3))]
            rule = rule_of(source.choice(("sweep", "homing", "nearest", "shuttle")), house[0])
            court = Court(house, rule, dealer_of(source.choice(("near", "least", "turns")), house))
            try:
                graph_of(court, kinds, 300)
            except TooMany:
                continue
            self.assertGraph(court, kinds, 300)
            many += 1

    def test_what_is_told_is_the_askers_own(self):
        court = court_of(TWO)
        kinds = [(0, 1)]
        graph = graph_of(court, kinds, 100)
        kept = copy.deepcopy(graph)
        other = graph_of(court, kinds, 100)
        for part in other:
            part.reverse()
        other[1][0].clear()
        kinds[0] = (1, 0)
        kinds.append((9, 9))
        self.assertEqual(graph, kept)
        self.assertEqual(graph_of(court, [(0, 1)], 100), kept)

    def test_a_refusal_before_changes_nothing(self):
        court = court_of(TWO)
        kept = graph_of(court, [(0, 1)], 100)
        with self.assertRaises(TooMany):
            graph_of(court, [(0, 1)], 5)
        self.assertEqual(graph_of(court, [(0, 1)], 12), kept)


class Most(CourtCase):
    def assertTooMany(self, call, most):
        with self.assertRaises(TooMany) as caught:
            call()
        self.assertIs(type(caught.exception), TooMany)
        self.assertIs(type(caught.exception.most), int)
        self.assertEqual(caught.exception.most, most)

    def test_just_so_many_and_one_more(self):
        for court, kinds in small_houses():
            many = len(graph_of(court, kinds, 1000)[0])
            self.assertEqual(len(graph_of(court, kinds, many)[0]), many)
            for most in sorted({1, 2, many // 2, many - 2, many - 1}):
                if 1 <= most < many:
                    self.assertTooMany(lambda: graph_of(court, kinds, most), most)

    def test_one_state(self):
        court = court_of("2 free 1; 0 1 1 plain")
        self.assertEqual(len(graph_of(court, [(0, 1)], 1)[0]), 1)
        self.assertTooMany(lambda: graph_of(court_of(TWO), [(0, 1)], 1), 1)

    def test_as_soon_as_one_more_is_found(self):
        for court, kinds in small_houses():
            states, ways, firsts = graph_of(court, kinds, 1000)
            order = [(number, choice) for number, leads in enumerate(ways) for choice, goal in leads]
            for most in (1, 2, 5, len(states) // 2, len(states) - 1):
                if 1 <= most < len(states):
                    counting = Counting(court)
                    self.assertTooMany(lambda: graph_of(counting, kinds, most), most)
                    self.assertEqual(counting.many, order.index(firsts[most]) + 1)

    def test_a_house_of_very_many_states(self):
        court = court_of("8 way; 0 6 4 slow; 3 6 4 plain; 7 6 4 hasty", "nearest", "turns")
        kinds = [(0, 7), (7, 0), (3, 4), (5, 1)]
        for most in (1, 10, 1000):
            for ask in ASKING:
                self.assertTooMany(lambda: ask(court, kinds, most), most)

    def test_behind_the_refusals_of_kinds(self):
        court = court_of(TWO)
        with self.assertRaises(NoRide):
            graph_of(court, [(0, 1), (1, 1)], 1)
        with self.assertRaises(NoFloor):
            graph_of(court, [(0, 1), (1, 2)], 1)


class Rows(CourtCase):
    def test_by_hand(self):
        firsts = [None, (0, 0), (0, 1), (1, -1), (3, 2), (2, -1)]
        rows = [[], [0], [1], [0, -1], [0, -1, 2], [1, -1]]
        self.assertEqual([row_to(firsts, number) for number in range(6)], rows)
        self.assertEqual(firsts, [None, (0, 0), (0, 1), (1, -1), (3, 2), (2, -1)])

    def test_each_leads_to_its_state(self):
        for court, kinds in small_houses():
            states, ways, firsts = graph_of(court, kinds, 1000)
            lengths = []
            for number, state in enumerate(states):
                row = row_to(firsts, number)
                self.assertIs(type(row), list)
                self.assertEqual(played(court, kinds, row)[-1], state)
                lengths.append(len(row))
            # The states come by the fewest choices that lead to them.
            self.assertEqual(lengths, sorted(lengths))

    def test_a_long_row(self):
        firsts = [None] + [(number, number % 2 - 1) for number in range(3000)]
        self.assertEqual(row_to(firsts, 3000), [number % 2 - 1 for number in range(3000)])

    def test_each_call_tells_a_list_of_its_own(self):
        firsts = [None, (0, 0)]
        row_to(firsts, 0).append(7)
        row_to(firsts, 1).append(7)
        self.assertEqual((row_to(firsts, 0), row_to(firsts, 1)), ([], [0]))


class InAState(CourtCase):
    def test_kinds_of_small_houses(self):
        for court, kinds in small_houses():
            for state in graph_of(court, kinds, 1000)[0]:
                for kind in range(len(kinds)):
                    self.assertIs(present(state, kind), kind_in(state, kind))


if __name__ == "__main__":
    unittest.main()
