"""What the tests of courts share: courts of texts, and a turn that is looked over from all sides."""

import copy
import unittest

from chances import faults_of_state
from liftcourt.courts import Court
from liftcourt.dealing import dealer_of
from liftcourt.houses import read_house
from liftcourt.rules import rule_of
from restated import expected_turn

HUGE = 10 ** 60 - 1


def court_of(text, rule="sweep", dealer="near"):
    house = read_house(text)
    return Court(house, rule_of(rule, house[0]), dealer_of(dealer, house) if isinstance(dealer, str) else dealer)


def cabin(place=0, light=0, door=0, marks=0, aboard=()):
    return (place, light, door, marks, tuple(aboard))


def state_of(cabins, waiting=(), last=0, fire=False):
    return (tuple(cabins), tuple(waiting), last, fire)


class CourtCase(unittest.TestCase):
    def assertState(self, court, state):
        self.assertEqual(faults_of_state(court.house, state), [], state)
        self.assertEqual({state: 1}[copy.deepcopy(state)], 1)

    def assertLog(self, log):
        self.assertIs(type(log), list)
        kinds = {"barred": [int], "sent": [int], "deal": [int, int], "out": [int] * 3, "in": [int] * 3}
        for entry in log:
            self.assertIs(type(entry), tuple)
            self.assertEqual([type(part) for part in entry[1:]], kinds[entry[0]])

    def turned(self, court, state, deeds):
        """The turn's answer, once it is found to be of the right kinds and what the points' words tell."""
        self.assertEqual(faults_of_state(court.house, state), [], state)
        before = copy.deepcopy((state, deeds))
        answer = court.turn(state, deeds)
        self.assertEqual((state, deeds), before)
        self.assertIs(type(answer), tuple)
        self.assertEqual(len(answer), 2)
        self.assertState(court, answer[0])
        self.assertLog(answer[1])
        self.assertEqual(answer, expected_turn(court.house, court.rule, court.dealer, state, deeds), (state, deeds))
        return answer

    def assertTurn(self, court, state, deeds, cabins, waiting, log, last=None, fire=None):
        expected = state_of(cabins, waiting, state[2] if last is None else last, state[3] if fire is None else fire)
        self.assertEqual(self.turned(court, state, deeds), (expected, log), (state, deeds))

    def assertRefused(self, court, state, deeds, error, **fields):
        before = copy.deepcopy((state, deeds))
        with self.assertRaises(error) as caught:
            court.turn(state, deeds)
        self.assertIs(type(caught.exception), error)
        for name, number in fields.items():
            self.assertEqual(getattr(caught.exception, name), number)
        self.assertEqual((state, deeds), before)
