"""Points 32 and 33: anybody's ranks looked over, and a path and a cycle."""

import copy
import random
import unittest

from chances import goals_ahead
from court_case import HUGE, CourtCase, cabin, court_of, state_of
from liftcourt.graphs import graph_of, led
from liftcourt.looks import is_cycle, is_rank
from liftcourt.ranks import longest, ranks_of
from restated_graphs import expected_choices, expected_led, kind_in, played
from restated_looks import faults_of_cycle, faults_of_ranks
from small_houses import STAYING, no_dealer, small_houses

TWO = "2 free; 0 1 1 plain"
THREE = "3 free; 0 1 1 plain"
THREE_KINDS = [(0, 1), (1, 0), (2, 0)]
FAR = (9, 4, -2, -3, 10 ** 30, -(10 ** 30), HUGE, -HUGE)


def rows_of(court, kinds, kind):
    """The states with their ranks, or None where one has none."""
    graph = graph_of(court, kinds, 1000)
    ranks = ranks_of(graph, kind)
    return None if None in ranks else list(zip(graph[0], ranks))


def with_rank(rows, number, rank):
    return rows[:number] + [(rows[number][0], rank)] + rows[number + 1:]


class RankLook(CourtCase):
    def look(self, court, kinds, kind, rows):
        """The answer, once it is found to be what the point's words tell."""
        before = copy.deepcopy((kinds, rows))
        answer = is_rank(court, kinds, kind, rows)
        self.assertEqual((kinds, rows), before)
        self.assertIs(type(answer), bool)
        self.assertIs(answer, not faults_of_ranks(court, kinds, kind, rows), rows)
        return answer

    def assertGood(self, court, kinds, kind, rows):
        self.assertTrue(self.look(court, kinds, kind, rows))

    def assertJust(self, fault, court, kinds, kind, rows):
        """The list is no good one, and fails in nothing but this."""
        self.assertEqual(faults_of_ranks(court, kinds, kind, rows), {fault})
        self.assertFalse(self.look(court, kinds, kind, rows))


class GoodRanks(RankLook):
    def test_by_hand(self):
        court = court_of("2 free; 0 1 1 hasty", STAYING)
        empty, waits = court.begin(), state_of([cabin(0)], [(0, 0, 1, 0)])
        self.assertFalse(self.look(court, [(0, 1)], 0, [(empty, 0), (waits, 1)]))
        locked = court_of("2 free 1; 0 1 1 plain")
        self.assertGood(locked, [(0, 1)], 0, [(locked.begin(), 0)])
        for rank in (1, -1, HUGE, -HUGE):
            self.assertFalse(self.look(locked, [(0, 1)], 0, [(locked.begin(), rank)]))

    def test_the_ranks_of_small_houses(self):
        many = 0
        for court, kinds in small_houses():
            for kind in range(len(kinds)):
                rows = rows_of(court, kinds, kind)
                if rows is not None:
                    many += 1
                    self.assertGood(court, kinds, kind, rows)
        self.assertGreater(many, 10)

    def test_in_any_order(self):
        court = court_of(TWO)
        rows = rows_of(court, [(0, 1), (1, 0)], 1)
        for seed in range(5):
            random.Random(seed).shuffle(rows)
            self.assertGood(court, [(0, 1), (1, 0)], 1, rows)

    def test_other_ranks_than_the_least(self):
        court = court_of(TWO)
        rows = rows_of(court, [(0, 1)], 0)
        for stretch in (lambda rank: 2 * rank, lambda rank: rank and rank + 5, lambda rank: rank ** 3):
            self.assertGood(court, [(0, 1)], 0, [(state, stretch(rank)) for state, rank in rows])

    def test_ranks_of_sixty_figures(self):
        court = court_of(TWO)
        rows = rows_of(court, [(0, 1)], 0)
        greatest = max(rank for state, rank in rows)
        great = [(state, rank and HUGE - greatest + rank) for state, rank in rows]
        self.assertIn(HUGE, [rank for state, rank in great])
        self.assertGood(court, [(0, 1)], 0, great)
        least = HUGE - greatest + 1
        for number, (state, rank) in enumerate(great):
            if rank > least:
                self.assertJust("a choice leads not lower", court, [(0, 1)], 0, with_rank(great, number, rank - 1))
            if rank == least:
                self.assertJust("a rank below 0", court, [(0, 1)], 0, with_rank(great, number, -HUGE))

    def test_states_that_no_row_leads_to(self):
        court = court_of(TWO)
        kinds = [(0, 1)]
        rows = rows_of(court, kinds, 0)
        states = [state for state, rank in rows]
        beside = state_of([cabin(2, -1, 0)], [(0, 0, 1, -1)])
        self.assertNotIn(beside, states)
        behind = led(court, kinds, beside, -1)
        self.assertIn(behind, states)
        rank = dict(rows)[behind]
        self.assertGood(court, kinds, 0, rows + [(beside, rank + 1)])
        self.assertGood(court, kinds, 0, [(beside, HUGE)] + rows)
        self.assertJust("a choice leads not lower", court, kinds, 0, rows + [(beside, rank)])
        self.assertJust("rank 0 with the kind", court, kinds, 0, [(beside, 0)] + rows)

    def test_a_kind_with_a_locked_goal(self):
        court = court_of("3 free 2; 0 1 1 plain")
        kinds = [(0, 2), (0, 1)]
        rows = rows_of(court, kinds, 0)
        self.assertEqual({rank for state, rank in rows}, {0})
        self.assertGood(court, kinds, 0, rows)
        self.assertGood(court, kinds, 1, rows_of(court, kinds, 1))
        # No row leads to a state with the kind in it, but a list may have it.
        waits = state_of([cabin(0)], [(0, 0, 2, 0)])
        self.assertJust("a choice leads out", court, kinds, 0, rows + [(waits, 9)])

    def test_a_list_of_many_states(self):
        court = court_of("3 way; 0 2 2 slow")
        kinds = [(0, 1), (1, 0), (2, 0), (0, 2)]
        graph = graph_of(court, kinds, 1200)
        rows = list(zip(graph[0], ranks_of(graph, 0)))
        self.assertEqual(len(rows), 1056)
        self.assertNotIn(None, [rank for state, rank in rows])
        self.assertIs(is_rank(court, kinds, 0, rows), True)
        self.assertIs(is_rank(court, kinds, 0, rows + rows[-1:]), False)
        self.assertIs(is_rank(court, kinds, 0, rows[:-1]), False)

    def test_the_kind_that_is_asked_for(self):
        court = court_of(TWO)
        kinds = [(0, 1), (1, 0)]
        rows = [rows_of(court, kinds, kind) for kind in (0, 1)]
        for kind in (0, 1):
            self.assertGood(court, kinds, kind, rows[kind])
            self.assertFalse(self.look(court, kinds, 1 - kind, rows[kind]))

    def test_what_is_done_to_the_list_afterwards(self):
        court = court_of(TWO)
        rows = rows_of(court, [(0, 1)], 0)
        kept = list(rows)
        self.assertIs(is_rank(court, [(0, 1)], 0, rows), True)
        rows.clear()
        self.assertIs(is_rank(court, [(0, 1)], 0, rows), False)
        self.assertIs(is_rank(court, [(0, 1)], 0, kept), True)


class FaultyRanks(RankLook):
    """Lists that fail in just one thing."""

    def setUp(self):
        self.court = court_of(TWO)
        self.kinds = [(0, 1)]
        self.rows = rows_of(self.court, self.kinds, 0)

    def places(self, rank):
        return [number for number, row in enumerate(self.rows) if row[1] == rank]

    def assertFault(self, fault, rows):
        self.assertJust(fault, self.court, self.kinds, 0, rows)

    def test_the_first_state_not_among_them(self):
        self.assertGood(self.court, self.kinds, 0, self.rows)
        self.assertFault("the first state is missing", self.rows[1:])
        self.assertFault("the first state is missing", [])

    def test_a_state_twice(self):
        for number, row in enumerate(self.rows):
            self.assertFault("a state is there twice", self.rows + [row])
            self.assertFault("a state is there twice", self.rows[:number] + [row] + self.rows[number:])

    def test_a_state_twice_with_unlike_ranks(self):
        wide = [(state, 10 * rank) for state, rank in self.rows]
        self.assertGood(self.court, self.kinds, 0, wide)
        for number, (state, rank) in enumerate(wide):
            if rank:
                for other in (rank + 1, rank - 1):
                    self.assertFault("a state is there twice", wide + [(state, other)])
                    self.assertFault("a state is there twice", [(state, other)] + wide)

    def test_rank_0_with_the_kind_in_the_state(self):
        self.assertTrue(self.places(1))
        for number in self.places(1):
            self.assertFault("rank 0 with the kind", with_rank(self.rows, number, 0))
        # All with the kind at once: nothing is asked of where they lead.
        self.assertFault("rank 0 with the kind", [(state, 0) for state, rank in self.rows])

    def test_a_rank_above_0_without_the_kind(self):
        # By the shuttle nothing comes back to the first state, so a great rank there leads to lower ones.
        court = court_of(TWO, "shuttle")
        rows = rows_of(court, self.kinds, 0)
        self.assertGood(court, self.kinds, 0, rows)
        for rank in (100, HUGE):
            self.assertJust("another rank without the kind", court, self.kinds, 0, with_rank(rows, 0, rank))

    def test_a_rank_below_0(self):
        for number in self.places(1):
            for rank in (-1, -2, -HUGE):
                self.assertFault("a rank below 0", with_rank(self.rows, number, rank))
        for number in self.places(0):
            self.assertFalse(self.look(self.court, self.kinds, 0, with_rank(self.rows, number, -1)))

    def test_a_choice_that_leads_out_of_the_list(self):
        for number in range(1, len(self.rows)):
            self.assertFault("a choice leads out", self.rows[:number] + self.rows[number + 1:])
        self.assertFault("a choice leads out", self.rows[:1])

    def test_a_choice_of_a_comer_that_leads_out(self):
        # State 8 is found by the choice 0 alone: that of -1 leads elsewhere.
        leads = graph_of(self.court, self.kinds, 100)[1]
        self.assertEqual([way for ways in leads for way in ways if way[1] == 8], [(0, 8), (0, 8)])
        self.assertFault("a choice leads out", self.rows[:8] + self.rows[9:])

    def test_a_choice_to_one_that_is_not_lower(self):
        for rank in (2, 3, 4, 5, 6, 7):
            for number in self.places(rank):
                self.assertFault("a choice leads not lower", with_rank(self.rows, number, rank - 1))
                if rank > 2:
                    self.assertFault("a choice leads not lower", with_rank(self.rows, number, rank - 2))

    def test_only_one_of_several_choices_leads_not_lower(self):
        court = court_of("3 way; 0 2 1 slow")
        kinds = THREE_KINDS
        rows = rows_of(court, kinds, 1)
        ranks = dict(rows)
        found = set()
        for number, (state, rank) in enumerate(rows):
            choices = expected_choices(state, kinds)
            behind = [ranks[expected_led(court, kinds, state, choice)] for choice in choices]
            if rank > 1 and len(set(behind)) > 1:
                found.add(behind[0] < behind[-1])
                self.assertJust("a choice leads not lower", court, kinds, 1, with_rank(rows, number, rank - 1))
        self.assertEqual(found, {True, False})

    def test_waits_for_ever(self):
        for court, kinds, kind in (
            (court_of(TWO, STAYING), [(0, 1)], 0), (court_of(TWO, "sweep", no_dealer), [(0, 1)], 0),
            (court_of(THREE), THREE_KINDS, 2),
        ):
            graph = graph_of(court, kinds, 1000)
            ranks = ranks_of(graph, kind)
            self.assertIn(None, ranks)
            for great in (1, 50, HUGE):
                rows = [(state, great if rank is None else rank) for state, rank in zip(graph[0], ranks)]
                self.assertFalse(self.look(court, kinds, kind, rows))


def drawn_small_state(source, court, kinds):
    """A state of the house without marks and fire, of riders of the kinds, whether or not some row leads to it."""
    floors, lifts, locked, sort = court.house
    tags = source.sample(range(len(kinds)), source.randint(0, len(kinds)))
    cabins = []
    for start, room, turns, kind in lifts:
        place = source.randrange(2 * floors - 1)
        light = source.choice((-1, 1)) if place % 2 else source.choice((-1, 0, 1))
        fitting = goals_ahead(sort, floors, place, light, False)
        going = [tag for tag in tags if kinds[tag][1] in fitting][:source.randint(0, room)]
        tags = [tag for tag in tags if tag not in going]
        door = 0 if place % 2 else source.randint(0, turns)
        cabins.append(cabin(place, light, door, 0, [(tag, kinds[tag][1]) for tag in going]))
    waiting = [(tag, *kinds[tag], source.randrange(-1, len(lifts))) for tag in tags]
    return state_of(cabins, waiting, source.randrange(len(lifts)))


class DrawnRanks(RankLook):
    def closed(self, court, kinds, states):
        """These and all states that choices lead to from them, with where they lead."""
        found = dict.fromkeys(states)
        layer = list(found)
        while layer:
            state = layer.pop()
            found[state] = [expected_led(court, kinds, state, choice) for choice in expected_choices(state, kinds)]
            layer += [behind for behind in found[state] if behind not in found]
            found.update((behind, None) for behind in found[state] if behind not in found)
        return found

    def some_ranks(self, found, kind):
        ranks = {state: int(kind_in(state, kind)) for state in found}
        for _ in range(60):
            for state, behind in found.items():
                if ranks[state]:
                    ranks[state] = 1 + max(ranks[there] for there in behind)
        return list(ranks.items())

    def changed(self, source, rows):
        number = source.randrange(len(rows))
        state, rank = rows[number]
        return source.choice((
            rows, rows[:number] + rows[number + 1:], rows + [rows[number]], with_rank(rows, number, rank + 1),
            with_rank(rows, number, rank - 1), with_rank(rows, number, 0), with_rank(rows, number, -HUGE),
        ))

    def test_lists_with_any_states(self):
        source = random.Random(32)
        answers = []
        for court, kinds in list(small_houses())[:5]:
            for _ in range(8):
                states = [drawn_small_state(source, court, kinds) for _ in range(source.randint(0, 4))]
                found = self.closed(court, kinds, [court.begin()] + states)
                for kind in range(len(kinds)):
                    rows = self.some_ranks(found, kind)
                    source.shuffle(rows)
                    answers += [self.look(court, kinds, kind, self.changed(source, rows)) for _ in range(4)]
        self.assertGreater(min(answers.count(True), answers.count(False)), 40)


class CycleLook(CourtCase):
    def look(self, court, kinds, kind, path, cycle):
        """The answer, once it is found to be what the point's words tell."""
        before = copy.deepcopy((kinds, path, cycle))
        answer = is_cycle(court, kinds, kind, path, cycle)
        self.assertEqual((kinds, path, cycle), before)
        self.assertIs(type(answer), bool)
        self.assertIs(answer, not faults_of_cycle(court, kinds, kind, path, cycle), (path, cycle))
        return answer

    def assertGood(self, court, kinds, kind, path, cycle):
        self.assertTrue(self.look(court, kinds, kind, path, cycle))

    def assertJust(self, fault, court, kinds, kind, path, cycle):
        self.assertEqual(faults_of_cycle(court, kinds, kind, path, cycle), {fault})
        self.assertFalse(self.look(court, kinds, kind, path, cycle))


class GoodCycles(CycleLook):
    def test_by_hand(self):
        court = court_of(TWO, STAYING)
        kinds = [(0, 1), (1, 0)]
        self.assertGood(court, kinds, 0, [0], [-1])
        self.assertGood(court, kinds, 0, [-1, -1, 0], [-1, -1, -1])
        self.assertGood(court, kinds, 0, [0, -1, 1], [-1])
        self.assertGood(court, kinds, 1, [0, -1, 1], [-1])
        self.assertFalse(self.look(court, kinds, 1, [0], [-1]))

    def told(self):
        for court, kinds in small_houses():
            for kind in range(len(kinds)):
                answer = longest(court, kinds, kind, 1000)
                if answer[0] == "never":
                    yield court, kinds, kind, answer[1], answer[2]

    def test_those_that_the_longest_wait_tells(self):
        told = list(self.told())
        self.assertGreater(len(told), 5)
        for court, kinds, kind, path, cycle in told:
            self.assertGood(court, kinds, kind, path, cycle)

    def test_played_again_begun_later_and_turned(self):
        for court, kinds, kind, path, cycle in self.told():
            self.assertGood(court, kinds, kind, path, cycle * 3)
            self.assertGood(court, kinds, kind, path + cycle, cycle)
            self.assertGood(court, kinds, kind, path + cycle[:1], cycle[1:] + cycle[:1])

    def test_each_change_of_them(self):
        seen = set()
        for court, kinds, kind, path, cycle in self.told():
            for place in range(len(path)):
                for choice in (-1, 0, 1, 2, 3, -2):
                    changed = path[:place] + [choice] + path[place + 1:]
                    seen.add(self.look(court, kinds, kind, changed, cycle))
                self.look(court, kinds, kind, path[:place], cycle)
            for place in range(len(cycle)):
                for choice in (-1, 0, 1, 2, 3, -2):
                    changed = cycle[:place] + [choice] + cycle[place + 1:]
                    seen.add(self.look(court, kinds, kind, path, changed))
                self.look(court, kinds, kind, path, cycle[:place])
        self.assertEqual(seen, {True, False})

    def test_long_ones(self):
        court = court_of(TWO, STAYING)
        self.assertIs(is_cycle(court, [(0, 1)], 0, [-1] * 1199 + [0], [-1] * 1200), True)
        self.assertIs(is_cycle(court, [(0, 1)], 0, [-1] * 1200, [-1] * 1199 + [0]), False)
        self.assertIs(is_cycle(court, [(0, 1)], 0, [0] + [-1] * 1199, [-1] * 1199 + [0]), False)

    def test_the_askers_own_dealer(self):
        court = court_of(TWO, "sweep", no_dealer)
        self.assertGood(court, [(0, 1), (1, 0)], 0, [0, 1], [-1, -1])


class FaultyCycles(CycleLook):
    def test_a_number_in_the_path_that_is_no_choice(self):
        court = court_of(TWO, STAYING)
        kinds = [(0, 1), (1, 0), (0, 1), (1, 0)]
        self.assertGood(court, kinds, 0, [-1, 0, -1, 1], [-1])
        for number in FAR + (0,):
            for path in ([0, number], [0, number, -1], [0, -1, number, 1]):
                self.assertJust("no choice in the path", court, kinds, 0, path, [-1])
        for number in FAR:
            self.assertJust("no choice in the path", court, kinds, 0, [number], [-1])
            self.assertJust("no choice in the path", court, kinds, 0, [number, 0], [-1])
            self.assertJust("no choice in the path", court, kinds, 0, [number], [])

    def test_a_number_in_the_cycle_that_is_no_choice(self):
        court = court_of(TWO, STAYING)
        kinds = [(0, 1), (1, 0), (0, 1), (1, 0)]
        for number in FAR + (0,):
            for cycle in ([number], [number, -1], [-1, number], [-1, number, -1]):
                self.assertJust("no choice in the cycle", court, kinds, 0, [0], cycle)

    def test_a_number_beyond_the_kinds(self):
        for kinds in ([(0, 1)], [(0, 1), (1, 0)], THREE_KINDS):
            court = court_of(THREE, STAYING)
            self.assertGood(court, kinds, 0, [0], [-1])
            self.assertJust("no choice in the path", court, kinds, 0, [0, len(kinds)], [-1])
            self.assertJust("no choice in the cycle", court, kinds, 0, [0], [len(kinds), -1])
            # A number below -1 is no kind counted from the end.
            for number in (-2, -len(kinds) - 1):
                self.assertJust("no choice in the path", court, kinds, 0, [0, number], [-1])
                self.assertJust("no choice in the cycle", court, kinds, 0, [0], [number])

    def test_the_kind_not_in_the_state_behind_the_path(self):
        court = court_of(TWO, STAYING)
        kinds = [(0, 1), (1, 0)]
        for path, cycle in (([-1], [-1]), ([1], [-1]), ([], [-1]), ([1, -1], [-1, -1])):
            self.assertFalse(self.look(court, kinds, 0, path, cycle))
        # The kind comes in the cycle, and is in each state of it.
        self.assertFalse(self.look(court, kinds, 0, [1], [0, -1]))

    def test_the_kind_not_in_a_state_of_the_cycle(self):
        # One rides, steps out, and another one of the kind comes: it is the same state again.
        court = court_of(TWO)
        kinds = [(0, 1)]
        path = [0, -1, -1, -1, -1, -1, 0]
        cycle = [-1, -1, -1, -1, -1, -1, -1, 0]
        states = played(court, kinds, path + cycle)
        self.assertEqual(states[-1], states[len(path)])
        self.assertJust("the kind is not in the cycle", court, kinds, 0, path, cycle)
        self.assertJust("the kind is not in the cycle", court, kinds, 0, path, cycle * 2)

    def test_an_empty_cycle(self):
        court = court_of(TWO, STAYING)
        self.assertJust("no cycle", court, [(0, 1)], 0, [0], [])
        self.assertJust("no cycle", court, [(0, 1)], 0, [-1, 0, -1], [])
        self.assertFalse(self.look(court, [(0, 1)], 0, [], []))
        self.assertFalse(self.look(court, [(0, 1)], 0, [-1], []))

    def test_a_cycle_that_does_not_come_back(self):
        court = court_of(TWO)
        for many in range(1, 5):
            self.assertJust("the cycle doesn't come back", court, [(0, 1)], 0, [0], [-1] * many)
        stays = court_of(TWO, STAYING)
        self.assertJust("the cycle doesn't come back", stays, [(0, 1), (1, 0)], 0, [0], [1])
        self.assertJust("the cycle doesn't come back", stays, [(0, 1), (1, 0)], 0, [0], [-1, 1, -1])
        # A cycle that comes back to a state of its own, but not to that behind the path.
        self.assertJust("the cycle doesn't come back", stays, [(0, 1), (1, 0)], 0, [0], [1, -1, -1])

    def test_an_empty_path(self):
        for court in (court_of(TWO), court_of(TWO, STAYING)):
            for cycle in ([], [-1], [0], [0, -1], [-1, 0], [9], [-2]):
                self.assertFalse(self.look(court, [(0, 1)], 0, [], cycle))

    def test_drawn_rows(self):
        source = random.Random(33)
        answers = []
        for court, kinds in small_houses():
            for _ in range(100):
                kind = source.randrange(len(kinds))
                path = [source.choice((-1, kind, *range(len(kinds)))) for _ in range(source.randint(0, 3))]
                cycle = [source.choice((-1,) * 9 + tuple(range(len(kinds)))) for _ in range(source.randint(0, 3))]
                answers.append(self.look(court, kinds, kind, path, cycle))
        self.assertGreater(min(answers.count(True), answers.count(False)), 10)


if __name__ == "__main__":
    unittest.main()
