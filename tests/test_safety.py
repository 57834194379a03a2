"""Point 23: each turn is safe, and a fire brings all down in time."""

import random
import unittest

from chances import USUAL, WILD, drawn_deeds, drawn_house, drawn_state
from court_case import cabin, court_of, state_of
from liftcourt.courts import Court
from liftcourt.dealing import dealer_of, serving
from liftcourt.rules import Rule, Table, rule_of
from safe_turns import faults_of_turn

PLAIN_RULES = ("sweep", "homing", "nearest", "shuttle")


def any_dealer(cabins, waiting, rider, last):
    """Any lift that serves, or none, and any last; the same whenever it is handed the same."""
    drawn = random.Random(repr((cabins, waiting, rider, last)))
    return (drawn.choice([-1] + serving(cabins)), drawn.randrange(len(cabins)))


def drawn_rule(source, house):
    if source.random() < 0.5:
        return rule_of(source.choice(PLAIN_RULES), house[0])
    return Table("".join(source.choice("oxuds") for _ in range(36)))


def drawn_court(source):
    house = drawn_house(source)
    texts = ["near", "least", "turns", "zone" + " 0" * house[0], f"fixed 0 {len(house[1]) - 1}"]
    dealer = any_dealer if source.random() < 0.5 else dealer_of(source.choice(texts), house)
    return Court(house, drawn_rule(source, house), dealer)


class EachTurn(unittest.TestCase):
    def assertSafe(self, court, state, deeds):
        behind, log = court.turn(state, deeds)
        self.assertEqual(faults_of_turn(court, state, deeds, behind, log), [], (court.house, state, deeds, behind, log))
        return behind

    def test_rows_of_turns_with_many_deeds(self):
        source = random.Random(23)
        for _ in range(80):
            court = drawn_court(source)
            state = court.begin()
            for turn in range(50):
                state = self.assertSafe(court, state, drawn_deeds(source, court.house, WILD, 100 * turn, 8))

    def test_rows_of_turns_without_fires(self):
        source = random.Random(24)
        for _ in range(80):
            court = drawn_court(source)
            state = court.begin()
            for turn in range(50):
                state = self.assertSafe(court, state, drawn_deeds(source, court.house, USUAL, 100 * turn, 5))
                self.assertFalse(state[3])

    def test_turns_from_any_states(self):
        source = random.Random(25)
        for _ in range(3000):
            court = drawn_court(source)
            state = drawn_state(source, court.house)
            self.assertSafe(court, state, drawn_deeds(source, court.house, WILD, 2000))

    def test_sixty_deeds_in_a_turn_and_two_hundred_turns(self):
        source = random.Random(26)
        court = court_of("8 way 7; 0 6 1 plain; 3 2 4 slow; 7 1 2 hasty", dealer="least")
        state = court.begin()
        for turn in range(200):
            state = self.assertSafe(court, state, drawn_deeds(source, court.house, WILD, 100 * turn, 60))


class TheFire(unittest.TestCase):
    def assertAllBelow(self, court, state):
        self.assertTrue(state[3])
        self.assertEqual(state[1], ())
        for lift, told in enumerate(state[0]):
            self.assertEqual((told[0], told[2], told[4]), (0, court.house[1][lift][2], ()))

    def burnt(self, court, state, turns, source=None):
        names = ("come", "come", "goods", "back", "fire", "free")
        for turn in range(turns):
            first = [("fire",)] + [("free", lift) for lift in range(len(state[0]))] if turn == 0 else []
            more = drawn_deeds(source, court.house, names, 5000 + 100 * turn) if source else []
            state = court.turn(state, first + more)[0]
        return state

    def test_all_are_below_in_time(self):
        source = random.Random(27)
        for _ in range(400):
            court = drawn_court(source)
            for fire in (False, True):
                state = drawn_state(source, court.house, fire)
                turns = 2 * (court.house[0] - 1) + 3
                self.assertAllBelow(court, self.burnt(court, state, turns, source))

    def test_from_the_top_with_the_door_open_it_takes_just_so_long(self):
        for floors in range(2, 9):
            for sort in ("free", "way"):
                court = court_of(f"{floors} {sort}; 0 2 4 slow")
                turns = 2 * (floors - 1) + 3
                state = state_of([cabin(2 * floors - 2, 1, 4, 0, [(1, floors - 1)])])
                early = self.burnt(court, state, turns - 1)
                self.assertEqual(early, state_of([cabin(0, 0, 4, 0, [(1, floors - 1)])], fire=True))
                self.assertEqual(self.burnt(court, state, turns), state_of([cabin(0, 0, 4)], fire=True))

    def test_it_stays_so_while_the_fire_goes_on_and_ends_by_calm(self):
        source = random.Random(28)
        for _ in range(50):
            court = drawn_court(source)
            turns = 2 * (court.house[0] - 1) + 3
            state = self.burnt(court, drawn_state(source, court.house, False), turns + source.randint(1, 5), source)
            self.assertAllBelow(court, state)
            self.assertFalse(court.turn(state, [("calm",)])[0][3])

    def test_a_stuck_lift_or_a_blocked_door_holds_it_up(self):
        court = court_of("3 free; 0 2 1 plain")
        for deed, told in ((("stick", 0), cabin(3, 1, 0, 1)), (("block", 0), cabin(4, 1, 1))):
            state = court.turn(state_of([told]), [("fire",), deed])[0]
            for _ in range(20):
                state = court.turn(state, [deed])[0]
            self.assertEqual(state, state_of([told], fire=True))


class TheLook(unittest.TestCase):
    """The faults that the tests above look for are found where they are."""

    def found(self, sort, before, after, deeds=(), log=()):
        court = Court((5, ((0, 2, 2, "plain"),), 0, sort), Rule(), any_dealer)
        return faults_of_turn(court, before, list(deeds), after, list(log))

    def test_faults_are_found(self):
        def alone(*told, waiting=(), fire=False):
            return state_of([cabin(*told)], waiting, 0, fire)

        coming = [("come", 1, 0, 1, False)]
        for fault, sort, before, after, deeds, log in (
            ("open between", "free", alone(3, 1), alone(3, 1, 1), (), ()),
            ("open ahead or behind", "free", alone(4, 1, 1), alone(5, 1), (), ()),
            ("open ahead or behind", "free", alone(3, 1), alone(4, 1, 1), (), ()),
            ("more than half a floor", "free", alone(4, 1), alone(6, 1), (), ()),
            ("blocked is shut", "free", alone(4, 0, 1), alone(4), [("block", 0)], ()),
            ("stuck lift", "free", alone(3, 1, 0, 1), alone(4, 1, 0, 1), (), ()),
            ("stuck lift", "free", alone(3, 1), alone(4, 1, 0, 1), [("stick", 0)], ()),
            ("farther", "way", alone(5, -1, 0, 0, [(1, 0)]), alone(6, -1, 0, 0, [(1, 0)]), (), ()),
            ("just one place", "free", alone(4, 0, 1, 0, [(1, 2)]), alone(4), (), ()),
            ("just one place", "free", alone(4), alone(4), coming, ()),
            ("just one place", "free", alone(4), alone(4, waiting=[(1, 0, 1, 0)]), coming, [("sent", 1)]),
            ("elsewhere", "free", alone(4, 0, 1, 0, [(1, 3)]), alone(4), (), [("out", 1, 0, 2)]),
            ("just one place", "free", alone(4, 0, 1, 0, [(1, 2)]), alone(4), (), [("out", 1, 0, 2)] * 2),
            ("never stepped in", "free", alone(4, 0, 1, waiting=[(1, 2, 3, 0)]), alone(4, 0, 0, 0, [(1, 3)]), (), ()),
            ("another one", "free", alone(4, waiting=[(1, 2, 3, 0)]), alone(4, waiting=[(1, 2, 1, 0)]), (), ()),
            ("more than its room", "free", alone(4), alone(4, 0, 0, 0, [(1, 3), (2, 3), (3, 3)]), (), ()),
            ("waits in a fire", "free", alone(4), alone(4, waiting=[(1, 0, 1, 0)], fire=True), coming, ()),
        ):
            found = self.found(sort, before, after, deeds, log)
            self.assertIn(fault, "; ".join(found), (before, after))

    def test_a_safe_turn_has_none(self):
        before = state_of([cabin(4, 0, 1, 0, [(1, 2)])], [(2, 2, 3, 0)])
        after = state_of([cabin(4, 0, 0, 0, [(2, 3)])])
        self.assertEqual(self.found("free", before, after, (), [("out", 1, 0, 2), ("in", 2, 0, 2)]), [])


if __name__ == "__main__":
    unittest.main()
