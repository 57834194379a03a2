"""What the tests of ranks and of all that leans on them share: ranks and longest waits looked over from all sides."""

import copy

from court_case import CourtCase
from liftcourt.graphs import graph_of
from liftcourt.ranks import longest, ranks_of
from restated import expected_turn
from restated_graphs import expected_ranks, kind_in, played


class RankCase(CourtCase):
    def assertRanks(self, graph, kind):
        """The ranks, once they are found to be of the right kinds and what the points' words tell."""
        before = copy.deepcopy(graph)
        ranks = ranks_of(graph, kind)
        self.assertEqual(graph, before)
        self.assertIs(type(ranks), list)
        self.assertLessEqual({type(rank) for rank in ranks}, {int, type(None)})
        self.assertEqual(ranks, expected_ranks(graph, kind))
        for number, rank in enumerate(ranks):
            self.assertIs(rank == 0, not kind_in(graph[0][number], kind))
            behind = [ranks[goal] for choice, goal in graph[1][number]]
            if rank is None:
                self.assertIn(None, behind)
            elif rank > 0:
                self.assertNotIn(None, behind)
                self.assertEqual(max(behind), rank - 1)
        return ranks

    def assertLongest(self, court, kinds, kind, most=1000):
        """The answer, once it is found to be what the points' words tell; its rows are played."""
        before = list(kinds)
        answer = longest(court, kinds, kind, most)
        self.assertEqual(kinds, before)
        self.assertSettled(court, kinds, kind, answer, most)
        return answer

    def assertSettled(self, court, kinds, kind, answer, most):
        self.assertIs(type(answer), tuple)
        ranks = expected_ranks(graph_of(court, kinds, most), kind)
        if None in ranks:
            self.assertEqual(len(answer), 3)
            self.assertEqual(answer[0], "never")
            self.assertForEver(court, kinds, kind, answer[1], answer[2])
        else:
            self.assertEqual(answer[:2], ("most", max(ranks)))
            self.assertIs(type(answer[1]), int)
            self.assertEqual(len(answer), 3)
            self.assertSoLong(court, kinds, kind, answer[1], answer[2])

    def assertRow(self, row):
        self.assertIs(type(row), list)
        self.assertEqual([type(choice) for choice in row], [int] * len(row))

    def assertForEver(self, court, kinds, kind, path, cycle):
        self.assertRow(path)
        self.assertRow(cycle)
        self.assertGreater(len(cycle), 0)
        # Again and again: the second time it leads through the same states.
        states = played(court, kinds, path + cycle + cycle)
        kept = states[len(path):]
        self.assertTrue(all(kind_in(state, kind) for state in kept))
        self.assertEqual(kept[0], kept[len(cycle)])
        self.assertEqual(kept[:len(cycle)], kept[len(cycle):-1])

    def assertSoLong(self, court, kinds, kind, n, row):
        self.assertRow(row)
        if n == 0:
            self.assertEqual(row, [])
            return
        came = len(row) - 1 - n
        self.assertEqual(row[came], kind)
        states = played(court, kinds, row)
        # states[k] stands behind k turns, so the rider is there behind the turn of coming and all turns but the last.
        self.assertEqual([kind_in(state, kind) for state in states[came:]], [False] + [True] * n + [False])
        deeds = [("come", row[-1], *kinds[row[-1]], False)] if row[-1] >= 0 else []
        log = expected_turn(court.house, court.rule, court.dealer, states[-2], deeds)[1]
        outs = [entry for entry in log if entry[:2] == ("out", kind)]
        self.assertEqual([entry[3] for entry in outs], [kinds[kind][1]])
