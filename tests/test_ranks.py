"""Points 30 and 31: ranks, and the longest wait of a kind; with these what point 3 promises of small houses."""

import copy
import itertools
import random
import unittest

from chances import drawn_house, drawn_ride
from court_case import cabin, court_of, state_of
from liftcourt.courts import Court
from liftcourt.dealing import dealer_of
from liftcourt.errors import NoFloor, NoRide, TooMany
from liftcourt.graphs import graph_of
from liftcourt.ranks import longest, ranks_of
from liftcourt.rules import Table, rule_of
from rank_case import RankCase
from restated_graphs import expected_choices, kind_in, played
from small_houses import STAYING, no_dealer, small_houses

TWO = "2 free; 0 1 1 plain"
THREE_KINDS = [(0, 1), (1, 0), (2, 0)]


def wait_state(kind):
    return state_of([cabin(0)], [(kind, 0, 1, 0)])


def drawn_small(source):
    """A court with few lifts and any rule or dealer, and kinds."""
    house = drawn_house(source, 2)
    texts = ["near", "least", "turns"]
    letters = "".join(source.choice("oxuds") for _ in range(36))
    rule = Table(letters) if source.random() < 0.6 else rule_of(source.choice(("sweep", "nearest")), house[0])
    kinds = [drawn_ride(source, house[0]) for _ in range(source.randint(1, 3))]
    return Court(house, rule, dealer_of(source.choice(texts), house)), kinds


class Ranks(RankCase):
    def test_by_hand(self):
        graph = graph_of(court_of(TWO), [(0, 1)], 100)
        self.assertEqual(self.assertRanks(graph, 0), [0, 5, 4, 3, 2, 1, 0, 0, 7, 6, 5, 4])

    def test_by_hand_of_graphs_that_are_written_out(self):
        off, on = state_of([cabin(0)]), wait_state(0)
        for states, ways, ranks in (
            ([off], [[(-1, 0), (0, 0)]], [0]),
            ([off, on], [[(-1, 0), (0, 1)], [(-1, 0)]], [0, 1]),
            ([off, on], [[(-1, 0), (0, 1)], [(-1, 1)]], [0, None]),
            ([off, on], [[(-1, 0), (0, 1)], [(-1, 0), (1, 1)]], [0, None]),
            ([off, on, on], [[(-1, 0), (0, 1)], [(-1, 2), (1, 0)], [(-1, 0)]], [0, 2, 1]),
            ([off, on, on, on], [[(0, 1)], [(-1, 2), (1, 3)], [(-1, 3)], [(-1, 0)]], [0, 3, 2, 1]),
            ([off, on, on, on], [[(0, 1)], [(-1, 3), (1, 2)], [(-1, 3)], [(-1, 0)]], [0, 3, 2, 1]),
            # One that can come to a cycle has no rank; one behind a cycle has.
            ([off, on, on, on, on], [[(0, 1)], [(-1, 2)], [(-1, 3)], [(-1, 2), (1, 4)], [(-1, 0)]],
             [0, None, None, None, 1]),
            # A cycle only through states without the kind keeps nobody.
            ([off, on, off], [[(0, 1)], [(-1, 2)], [(-1, 0), (0, 1)]], [0, 1, 0]),
            # Two choices to one state.
            ([off, on, on], [[(0, 1)], [(-1, 2), (1, 2)], [(-1, 0), (1, 0)]], [0, 2, 1]),
        ):
            firsts = [None] * len(states)
            self.assertEqual(self.assertRanks((states, ways, firsts), 0), ranks)
            self.assertEqual(ranks_of((states, ways, firsts), 1), [0] * len(states))

    def test_a_long_line(self):
        many = 3000
        states = [state_of([cabin(0)])] + [wait_state(0)] * many
        ways = [[(0, many)]] + [[(-1, number)] for number in range(many)]
        self.assertEqual(ranks_of((states, ways, [None] * (many + 1)), 0), list(range(many + 1)))

    def test_each_kind_of_small_houses(self):
        seen = set()
        for court, kinds in small_houses():
            graph = graph_of(court, kinds, 1000)
            for kind in range(len(kinds)):
                ranks = self.assertRanks(graph, kind)
                seen.add((None in ranks, any(ranks)))
        self.assertEqual(seen, {(True, True), (True, False), (False, True), (False, False)})

    def test_some_states_with_a_rank_beside_some_without(self):
        graph = graph_of(court_of("3 way; 0 2 1 slow", "nearest"), THREE_KINDS, 1000)
        for kind in range(3):
            ranks = self.assertRanks(graph, kind)
            self.assertIn(None, ranks)
            self.assertTrue(any(ranks))

    def test_drawn_houses(self):
        source = random.Random(30)
        many = 0
        while many < 40:
            court, kinds = drawn_small(source)
            try:
                graph = graph_of(court, kinds, 250)
            except TooMany:
                continue
            many += 1
            for kind in range(len(kinds)):
                self.assertRanks(graph, kind)

    def test_what_is_told_is_the_askers_own(self):
        graph = graph_of(court_of(TWO), [(0, 1)], 100)
        ranks = ranks_of(graph, 0)
        ranks_of(graph, 0).clear()
        kept = list(ranks)
        graph[0].clear()
        graph[1][1].clear()
        self.assertEqual(ranks, kept)


class Longest(RankCase):
    def test_by_hand(self):
        self.assertEqual(self.assertLongest(court_of(TWO), [(0, 1)], 0)[:2], ("most", 7))

    def test_one_that_rides_at_once(self):
        # From the lift's floor: the door opens, in, two halves of a floor, the door opens, out.
        court = court_of("2 free; 0 1 1 plain", "homing")
        self.assertEqual(self.assertLongest(court, [(0, 1)], 0)[:2], ("most", 7))
        court = court_of("2 free; 0 1 1 plain; 1 1 1 plain", "homing")
        self.assertEqual(self.assertLongest(court, [(0, 1)], 0)[:2], ("most", 5))

    def test_each_kind_of_small_houses(self):
        words = set()
        for court, kinds in small_houses():
            for kind in range(len(kinds)):
                words.add(self.assertLongest(court, kinds, kind)[0])
        self.assertEqual(words, {"most", "never"})

    def test_more_kinds_never_shorten_the_wait(self):
        court = court_of("3 free; 0 1 1 plain")
        alone = self.assertLongest(court, [(0, 1)], 0)[1]
        self.assertGreater(self.assertLongest(court, THREE_KINDS, 0)[1], alone)

    def test_somebody_is_passed_for_ever(self):
        for text, rule, kind in (
            ("3 free; 0 1 1 plain", "sweep", 2), ("3 free; 0 1 1 plain", "shuttle", 2),
            ("3 way; 0 1 1 plain", "sweep", 1), ("3 way; 0 1 1 plain", "nearest", 2),
        ):
            word, path, cycle = self.assertLongest(court_of(text, rule), THREE_KINDS, kind)
            self.assertEqual(word, "never")
            self.assertTrue(any(choice >= 0 for choice in cycle))
            for other in {0, 1, 2} - {kind}:
                self.assertEqual(self.assertLongest(court_of(text, rule), THREE_KINDS, other)[0], "most")

    def test_a_lift_that_stays_and_a_dealer_that_deals_nobody(self):
        for court in (court_of(TWO, STAYING), court_of(TWO, "sweep", no_dealer)):
            for kind in (0, 1):
                self.assertEqual(self.assertLongest(court, [(1, 0), (0, 1)], kind)[0], "never")

    def test_a_kind_that_never_is_in_a_state(self):
        court = court_of("3 free 2; 0 1 1 plain")
        self.assertEqual(self.assertLongest(court, [(0, 2)], 0), ("most", 0, []))
        self.assertEqual(self.assertLongest(court, [(0, 1), (1, 2)], 1), ("most", 0, []))
        self.assertEqual(self.assertLongest(court, [(0, 1), (1, 2)], 0)[0], "most")
        # Also where others wait for ever.
        stays = court_of("3 free 2; 0 1 1 plain", STAYING)
        self.assertEqual(self.assertLongest(stays, [(0, 1), (1, 2)], 1), ("most", 0, []))
        self.assertEqual(self.assertLongest(stays, [(0, 1), (1, 2)], 0)[0], "never")

    def test_drawn_houses(self):
        source = random.Random(31)
        words = []
        while len(words) < 60:
            court, kinds = drawn_small(source)
            try:
                graph_of(court, kinds, 250)
            except TooMany:
                continue
            words += [self.assertLongest(court, kinds, kind, 250)[0] for kind in range(len(kinds))]
        self.assertGreater(min(words.count("most"), words.count("never")), 10)

    def test_no_row_of_comings_keeps_one_longer(self):
        source = random.Random(3)
        for text, rule, kinds in (
            ("2 free; 0 1 1 slow", "sweep", [(0, 1), (1, 0)]), ("3 way; 0 2 1 slow", "sweep", THREE_KINDS),
            ("2 way; 0 1 1 plain; 1 1 1 hasty", "homing", [(0, 1), (1, 0)]),
        ):
            court = court_of(text, rule)
            most = [longest(court, kinds, kind, 1000)[1] for kind in range(len(kinds))]
            since = {}
            state = court.begin()
            for turn in range(3000):
                choice = source.choice(expected_choices(state, kinds))
                state = court.turn(state, [("come", choice, *kinds[choice], False)] if choice >= 0 else [])[0]
                since = {kind: since.get(kind, turn) for kind in range(len(kinds)) if kind_in(state, kind)}
                self.assertTrue(all(turn - since[kind] < most[kind] for kind in since))

    def test_all_short_rows(self):
        court = court_of("2 free; 0 1 1 hasty")
        kinds = [(0, 1), (1, 0)]
        most = [self.assertLongest(court, kinds, kind)[1] for kind in range(2)]
        for row in itertools.product((-1, 0, 1), repeat=6):
            states = played(court, kinds, list(row) + [-1] * (max(most) + 1))
            if states is not None:
                for kind in range(2):
                    there = "".join("x" if kind_in(state, kind) else " " for state in states).split()
                    self.assertTrue(all(len(run) <= most[kind] for run in there))


class Refused(RankCase):
    def test_too_many(self):
        for court, kinds in small_houses():
            many = len(graph_of(court, kinds, 1000)[0])
            for kind in range(len(kinds)):
                self.assertLongest(court, kinds, kind, many)
                for most in sorted({1, many // 2, many - 1} - {0, many}):
                    with self.assertRaises(TooMany) as caught:
                        longest(court, kinds, kind, most)
                    self.assertEqual(caught.exception.most, most)

    def test_kinds(self):
        court = court_of(TWO)
        for most in (1, 1000):
            for kind in (0, 1):
                with self.assertRaises(NoFloor) as caught:
                    longest(court, [(0, 1), (1, 2), (1, 1)], kind, most)
                self.assertEqual(caught.exception.floor, 2)
                with self.assertRaises(NoRide):
                    longest(court, [(0, 0), (1, 2)], kind, most)

    def test_too_many_also_where_somebody_waits_for_ever(self):
        court = court_of(TWO, STAYING)
        for most in (1, 2, 3, 4):
            with self.assertRaises(TooMany):
                longest(court, [(0, 1), (1, 0)], 0, most)
        self.assertEqual(longest(court, [(0, 1), (1, 0)], 0, 5)[0], "never")

    def test_what_is_told_is_the_askers_own(self):
        court = court_of(TWO)
        kept = copy.deepcopy(longest(court, [(0, 1)], 0, 100))
        longest(court, [(0, 1)], 0, 100)[2].clear()
        self.assertEqual(longest(court, [(0, 1)], 0, 100)[1], kept[1])
        self.assertLongest(court, [(0, 1)], 0)


if __name__ == "__main__":
    unittest.main()
