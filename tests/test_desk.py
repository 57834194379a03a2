"""Point 38: the desk, each of its lines and each of their refusals."""

import random
import unittest

from chances import WILD, drawn_deeds, drawn_house
from helpers import SIGNS, off_by_one_sign
from liftcourt.courts import Court
from liftcourt.days import shown_turn
from liftcourt.dealing import dealer_of
from liftcourt.desk import Desk
from liftcourt.errors import (
    CourtError, NoDeal, NoDeed, NoFloor, NoHouse, NoIll, NoLift, NoLine, NoRide, NoRule, TooMany,
)
from liftcourt.houses import shown_house
from liftcourt.rules import rule_of
from rank_case import RankCase
from restated_desk import RetoldDesk, read_line, refusal_in, said
from restated_least import all_waits

HOUSE = "5 way 3 4; 0 2 1 plain; 4 3 2 hasty"
SMALL = "3 free; 0 1 1 plain"
TABLE = "table " + "oxuds" * 7 + "o"
STAYING = "table " + "s" * 36

# Lines that are none, whatever was told.
NO_LINES = (
    "", " ", "\n", "house", "rule", "deal", "turn", "kinds", "settle", "ill", "least", "lack", "court ", "wait ",
    " court", "court\n", "\ncourt", "courts", "Court", "waits", "wait 0", "court 0", "House 2 free; 0 1 1 plain",
    "houses 2 free; 0 1 1 plain", " house 2 free; 0 1 1 plain", "turns come 0 1", "TURN ", "turn\n", "rule\n",
    "house\n2 free; 0 1 1 plain", "-", "ok", "say", "quit", "kinds ", "kinds 0", "kinds 0 1 2", "kinds 0 1,1 0",
    "kinds 0 1, ", "kinds 0 1 , 1 0", "kinds , 0 1", "kinds 0  1", "kinds  0 1", "kinds 0 1 ", "kinds 0 1,  1 0",
    "kinds 00 1", "kinds -1 0", "kinds 0 1, 1", "kinds a b", "kinds 0 1; 1 0", "kinds 0 1000000000", "kinds 0 1\n",
    "kinds 0 1, 1 0, 0 1, 1 0, 0 1", "settle ", "settle .", "settle -1", "settle 00", "settle 0 0", "settle  0",
    "settle 0 ", "settle 1000000000", "settle a", "settle 4", "settle 9", "settle 999999999", "least ", "least 10",
    "least 10 ", "least 10 0 0", "least 10 0 0 1 2", "least 0 0 0 1", "least 101 0 0 1", "least 10 10 0 1",
    "least 10 11 0 1", "least 10 1 0 1, 0 1 0", "least 10 0 0 1,0 1 0", "least 10, 0 0 1", "least 10  0 0 1",
    "least 10 0 0 1 ", "least 010 0 0 1", "least 10 00 0 1", "least -1 0 0 1", "least 10 -1 0 1", "least 10 0 0 -1",
    "least 10 0 0 1, 10 0 1", "least x 0 0 1", "least 10 0 0 x", "least 10 0 0 1, ", "least 10 0 0 1000000000",
    "least 10" + ", 0 0 1" * 6, "least 10 0 0 1" + ", 0 0 1" * 6, "least  0 0 1", "least 1000000000 0 0 1",
    "lack ", "lack 10", "lack 10 0 0", "lack 0 0 0 1", "lack 101 0 0 1", "lack 10 10 0 1", "lack 10 1 0 1, 0 1 0",
    "lack 10 0 0 1" + ", 0 0 1" * 6, "lack near 10 0 0 1", "lack 10 0 0 1,0 0 1", "lacks 10 0 0 1",
)


class DeskCase(RankCase):
    def assertSays(self, desk, *pairs):
        for line, answer in pairs:
            told = desk.say(line)
            self.assertIs(type(told), str)
            self.assertEqual(told, answer, line)

    def assertRefused(self, desk, line, error, field=None):
        with self.assertRaises(CourtError) as caught:
            desk.say(line)
        self.assertEqual(refusal_in(caught.exception), (error, field), line)

    def desk_of(self, *lines):
        desk = Desk()
        for line in lines:
            desk.say(line)
        return desk

    def assertAlike(self, desk, model, line):
        """The desk answers what the point's words tell."""
        told, expected = said(desk, line), model.say(line)
        if isinstance(expected, tuple) and expected[0] == "settle":
            self.assertSettles(model, expected[1], told)
        elif isinstance(expected, tuple) and expected[0] == "least":
            self.assertTellsLeast(model, expected[1], expected[2], told)
        else:
            self.assertEqual(told, expected, line)

    def assertSettles(self, model, kind, told):
        name, *words = told.split(" ")
        choices = [word if word == "/" else -1 if word == "." else int(word) for word in words]
        if name == "most":
            answer = (name, choices[0], choices[1:])
        else:
            cut = choices.index("/")
            answer = (name, choices[:cut], choices[cut + 1:])
        self.assertSettled(model.court(), model.kinds, kind, answer, 500)

    def assertTellsLeast(self, model, riders, turns, told):
        total, *dealing = [int(word) for word in told.split(" ")]
        waits = all_waits(model.house, model.rule, riders, turns)
        self.assertEqual((waits[tuple(dealing)], total), (min(waits.values()),) * 2)


class Lines(DeskCase):
    """Each line with its answer, by hand."""

    def test_house(self):
        desk = Desk()
        self.assertSays(desk, ("house " + HOUSE, "ok"), ("court", "0 out 0 0; 8 out 0 0"), ("wait", "-"))

    def test_a_house_begins_with_sweep_and_near(self):
        desk = self.desk_of("house 3 free; 0 1 1 plain; 2 1 1 plain")
        # Near deals each to the lift at the floor; by sweep an idle lift stays where it is.
        self.assertSays(desk, ("turn come 2 1,come 0 1", "deal 0 1; deal 1 0"), ("house 2 free; 1 1 1 plain", "ok"),
                        ("turn ", "-"), ("court", "2 out 0 0"))

    def test_rule(self):
        desk = self.desk_of("house 2 free; 1 1 1 plain")
        self.assertSays(desk, ("rule homing", "ok"), ("turn ", "-"), ("court", "1 down 0 0"), ("turn ", "-"),
                        ("court", "0 down 0 0"), ("rule sweep", "ok"), ("court", "2 out 0 0"), ("turn ", "-"),
                        ("court", "2 out 0 0"), ("rule shuttle", "ok"), ("turn ", "-"), ("court", "1 down 0 0"),
                        ("rule nearest", "ok"), ("turn ", "-"), ("court", "2 out 0 0"), ("rule " + TABLE, "ok"),
                        ("rule " + STAYING, "ok"), ("turn come 1 0", "deal 0 0"), ("court", "2 out 0 0"))

    def test_the_shuttle_is_of_the_houses_highest_floor(self):
        for floors in range(2, 9):
            desk = self.desk_of(f"house {floors} free; {floors - 1} 1 1 plain", "rule shuttle", "turn ")
            self.assertSays(desk, ("court", f"{2 * floors - 3} down 0 0"))

    def test_deal(self):
        desk = self.desk_of("house 3 free; 0 1 1 plain; 2 1 1 plain")
        self.assertSays(desk, ("deal turns", "ok"), ("turn come 2 1,come 0 1", "deal 0 0; deal 1 1"),
                        ("deal fixed 1 1 0", "ok"), ("turn come 0 1,come 0 1", "deal 0 1; deal 1 1"),
                        ("turn come 2 1", "deal 2 0"), ("deal zone 1 0 0", "ok"),
                        ("turn come 0 1,come 2 1,come 1 2", "deal 0 1; deal 1 0; deal 2 0"), ("deal least", "ok"),
                        ("turn come 0 1,come 0 1,come 0 1", "deal 0 0; deal 1 1; deal 2 0"), ("deal near", "ok"),
                        ("turn come 0 1,come 0 1,come 0 1", "deal 0 0; deal 1 0; deal 2 0"))

    def test_rule_and_deal_stay_where_the_other_is_told(self):
        desk = self.desk_of("house 3 free; 1 1 1 plain; 2 1 1 plain", "rule homing", "deal fixed 1")
        self.assertSays(
            desk, ("turn come 0 1", "deal 0 1"), ("court", "1 down 0 0; 3 down 0 0"),
            ("rule nearest", "ok"), ("turn come 0 1", "deal 0 1"), ("court", "2 out 0 0; 3 down 0 0"),
            ("deal fixed 0", "ok"), ("turn come 0 1", "deal 0 0"), ("court", "1 down 0 0; 4 out 0 0"),
        )

    def test_rule_and_deal_begin_anew_but_keep_the_kinds(self):
        for line in ("rule sweep", "rule homing", "deal near", "deal fixed 0"):
            desk = self.desk_of("house " + SMALL, "kinds 0 1", "turn come 0 1,come 2 0,stick 0", "turn fire")
            self.assertSays(desk, ("court", "0 out 0 1"), (line, "ok"), ("court", "0 out 0 0"), ("wait", "-"),
                            ("turn come 0 1", "deal 0 0"))
            self.assertEqual(desk.say("settle 0").split(" ")[0], "most")

    def test_turn(self):
        desk = self.desk_of("house " + HOUSE)
        self.assertSays(
            desk, ("turn ", "-"), ("turn come 0 2,come 4 1", "deal 0 0; deal 1 1"),
            ("turn come 0 3,come 0 4 key,stick 1", "barred 2; deal 1 0; deal 3 0; in 0 0 0; in 3 0 0"),
            ("turn fire", "sent 1"), ("turn come 1 2,calm", "sent 4; out 0 0 0; out 3 0 0"), ("turn fire", "-"),
            ("turn block 0,goods 0,back 1,free 1", "-"),
        )

    def test_the_next_tag(self):
        desk = self.desk_of("house " + HOUSE)
        self.assertSays(desk, ("turn come 0 3", "barred 0"), ("turn come 0 1,come 0 4", "barred 2; deal 1 0"),
                        ("turn fire", "sent 1"), ("turn come 1 0,come 1 0", "sent 3; sent 4"), ("turn ", "-"),
                        ("turn come 1 0", "sent 5"))

    def test_many_riders(self):
        desk = self.desk_of("house 8 free; 0 1 1 plain", "rule " + STAYING)
        many = ",".join(["come 0 1"] * 60)
        for turn in range(20):
            told = desk.say("turn " + many)
            self.assertEqual(told, "; ".join(f"deal {tag} 0" for tag in range(60 * turn, 60 * turn + 60)))
        self.assertEqual(desk.say("wait"), " ".join(f"{tag}@0>1@0" for tag in range(1200)))

    def test_court(self):
        desk = self.desk_of("house " + HOUSE)
        self.assertSays(desk, ("court", "0 out 0 0; 8 out 0 0"))
        desk.say("turn come 0 2,come 4 1")
        self.assertSays(desk, ("court", "0 out 1 0; 8 out 2 0"))
        desk.say("turn come 0 3,come 0 4 key,stick 1")
        self.assertSays(desk, ("court", "0 up 0 0 0>2 3>4; 8 out 2 1"))
        desk.say("turn goods 1,goods 0")
        self.assertSays(desk, ("court", "1 up 0 2 0>2 3>4; 8 out 2 3"))
        desk.say("turn free 1,back 1,come 4 3")
        self.assertSays(desk, ("court", "2 up 0 2 0>2 3>4; 8 down 1 0 1>1"))

    def test_court_of_lights(self):
        desk = self.desk_of("house 2 free; 1 1 1 plain; 0 1 1 plain; 0 1 1 plain", "deal fixed 0 1")
        desk.say("turn come 0 1,come 1 0")
        self.assertSays(desk, ("court", "1 down 0 0; 1 up 0 0; 0 out 0 0"))

    def test_wait(self):
        desk = self.desk_of("house " + HOUSE, "rule " + STAYING)
        desk.say("turn come 0 2,come 4 1")
        self.assertSays(desk, ("wait", "0@0>2@0 1@4>1@1"))
        desk.say("turn stick 0,stick 1,come 2 0")
        self.assertSays(desk, ("wait", "0@0>2@-1 1@4>1@-1 2@2>0@-1"))
        desk.say("turn free 1")
        self.assertSays(desk, ("wait", "0@0>2@1 1@4>1@1 2@2>0@1"), ("turn fire", "sent 0; sent 1; sent 2"),
                        ("wait", "-"))

    def test_kinds_and_settle(self):
        desk = self.desk_of("house 2 free; 0 1 1 plain", "rule homing")
        self.assertSays(desk, ("kinds 0 1", "ok"))
        self.assertRegex(desk.say("settle 0"), "^most 7( [.0])*$")
        self.assertSays(self.desk_of("house 3 free 2; 0 1 1 plain", "kinds 0 2"), ("settle 0", "most 0"))
        self.assertSays(self.desk_of("house 2 free; 0 1 1 plain; 1 1 1 plain", "kinds 0 1", "rule homing"),
                        ("settle 0", "most 5 0 . . . . ."))
        stays = self.desk_of("house 2 free; 0 1 1 plain", "rule " + STAYING, "kinds 0 1, 1 0")
        for kind in (0, 1):
            self.assertRegex(stays.say(f"settle {kind}"), "^never [.01]( [.01])* /( [.01])+$")

    def test_settle_of_each_kind_told(self):
        for house, rule, kinds in (
            (SMALL, "sweep", "0 1"), (SMALL, "nearest", "0 1, 1 0"), (SMALL, "sweep", "0 1, 1 0, 2 0"),
            (SMALL, "sweep", "1 0, 2 0, 0 1, 0 1"), ("3 way; 0 2 1 slow", "nearest", "0 1, 1 0, 2 0"),
            ("2 way; 0 1 1 plain; 1 1 1 hasty", "homing", "0 1, 1 0"),
        ):
            desk, model = Desk(), RetoldDesk()
            for line in ["house " + house, "rule " + rule, "kinds " + kinds] + [f"settle {kind}" for kind in range(5)]:
                self.assertAlike(desk, model, line)

    def test_other_kinds_told_later(self):
        desk = self.desk_of("house 3 free 2; 0 1 1 plain", "kinds 0 1, 0 2")
        self.assertEqual(desk.say("settle 0").split(" ")[0], "most")
        self.assertSays(desk, ("settle 1", "most 0"), ("kinds 0 2", "ok"), ("settle 0", "most 0"))
        self.assertRefused(desk, "settle 1", NoLine)

    def test_kinds_change_nothing_else(self):
        desk = self.desk_of("house " + SMALL, "rule homing", "turn come 2 0,come 0 1")
        told = (desk.say("court"), desk.say("wait"))
        desk.say("kinds 0 1")
        self.assertEqual((desk.say("court"), desk.say("wait")), told)
        self.assertSays(desk, ("turn come 1 0", "deal 2 0; in 1 0 0"))

    def test_ill(self):
        desk = self.desk_of("house " + SMALL, "kinds 0 1, 1 0, 2 0")
        self.assertSays(desk, ("ill crowd 0", "ill"), ("ill crowd 1", "ill 0"), ("ill full 0", "ill 0 ."),
                        ("ill crowd 2 and full 0", "ill 0 1 2"), ("ill crowd 3 and full 0", "safe 126"),
                        ("ill crowd 4", "safe 126"), ("ill open 0 2", "ill 2 . . . ."))
        self.assertSays(self.desk_of("house 2 free 1; 0 1 1 plain", "kinds 0 1"), ("ill crowd 1", "safe 1"))

    def test_settle_ill_and_least_are_no_matter_of_the_state(self):
        lines = ("settle 0", "settle 2", "ill crowd 2", "ill crowd 0", "least 30 0 0 1, 2 2 0", "lack 30 0 0 1, 2 2 0")
        desk = self.desk_of("house " + SMALL, "kinds 0 1, 1 0, 2 0")
        first = [desk.say(line).split(" ")[0] for line in lines]
        desk.say("turn come 2 0,come 0 1,stick 0")
        desk.say("turn come 0 1,fire")
        told = (desk.say("court"), desk.say("wait"))
        self.assertEqual([desk.say(line).split(" ")[0] for line in lines], first)
        self.assertEqual((desk.say("court"), desk.say("wait")), told)
        self.assertSays(desk, ("turn come 0 1", "sent 3"))

    def test_least(self):
        desk = self.desk_of("house 4 way; 0 1 1 plain; 3 2 1 hasty")
        self.assertSays(desk, ("least 30 0 0 1, 0 3 2", "10 0 1"), ("least 30 0 3 2, 0 0 1", "10 1 0"),
                        ("least 3 0 0 1", "3 0"), ("least 30 29 0 1", "1 0"), ("least 100 99 3 0", "1 0"))
        one = self.desk_of("house " + SMALL)
        self.assertSays(one, ("least 10 0 0 1", "5 0"), ("least 100 0 0 1", "5 0"), ("least 1 0 0 1", "1 0"),
                        ("least 10 1 0 1, 2 0 1", "13 0 0"),
                        ("least 8 0 0 1, 0 0 2, 7 0 1, 7 1 0, 7 2 0, 7 2 1", "17 0 0 0 0 0 0"))

    def test_lack(self):
        desk = self.desk_of("house 4 way; 0 1 1 plain; 3 2 1 hasty")
        self.assertSays(desk, ("lack 30 0 3 2", "near 0, least 6, turns 6"),
                        ("lack 30 0 0 1", "near 0, least 0, turns 0"),
                        ("lack 30 0 3 2, 0 0 1", "near 0, least 12, turns 12"))

    def test_least_and_lack_go_by_the_rule_told_whatever_the_dealer(self):
        for dealer in ("near", "turns", "fixed 1"):
            desk = self.desk_of("house 4 way; 0 1 1 plain; 3 2 1 hasty", "deal " + dealer)
            self.assertSays(desk, ("least 30 0 0 1, 0 3 2", "10 0 1"), ("rule " + STAYING, "ok"))
            self.assertEqual(desk.say("least 30 0 0 1, 0 3 2").split(" ")[0], "60")
            self.assertSays(desk, ("lack 30 0 0 1, 0 3 2", "near 0, least 0, turns 0"))


class NoLines(DeskCase):
    def test_lines_that_are_none(self):
        model = RetoldDesk()
        desk = Desk()
        for line in NO_LINES:
            self.assertRefused(desk, line, NoLine)
        for line in ("house " + SMALL, "kinds 0 1, 1 0, 0 2, 2 0"):
            self.assertEqual((desk.say(line), model.say(line)), ("ok", "ok"))
            for line in NO_LINES:
                self.assertRefused(desk, line, NoLine)
                self.assertEqual(model.say(line), (NoLine, None), line)

    def test_a_desk_of_no_house(self):
        desk = Desk()
        for line in ("rule sweep", "rule bogus", "deal near", "deal ", "turn ", "turn come 0 1", "turn bogus", "court",
                     "wait", "kinds 0 1", "kinds 0 0", "settle 0", "ill crowd 0", "ill ", "least 10 0 0 1",
                     "least 10 0 0 0", "lack 10 0 0 1", "lack 10 0 9 9"):
            self.assertRefused(desk, line, NoLine)
        self.assertRefused(desk, "house ", NoHouse)
        self.assertRefused(desk, "house 2 free", NoHouse)
        self.assertRefused(desk, "court", NoLine)
        self.assertRefused(desk, "turn ", NoLine)
        self.assertSays(desk, ("house " + SMALL, "ok"), ("court", "0 out 0 0"))

    def test_no_kinds_told(self):
        desk = self.desk_of("house " + SMALL)
        for line in ("settle 0", "settle 1", "ill crowd 0", "ill bogus", "ill "):
            self.assertRefused(desk, line, NoLine)
        # Those of another house are told no more, those that were refused were never told.
        desk.say("kinds 0 1")
        desk.say("house " + SMALL)
        self.assertRefused(desk, "kinds 0 0", NoRide)
        for line in ("settle 0", "ill crowd 0", "ill bogus"):
            self.assertRefused(desk, line, NoLine)

    def test_ahead_of_all_else(self):
        desk = self.desk_of("house " + SMALL)
        for line in ("kinds 0 0, 9 9, x", "kinds 9 9, 0 0, 0 1, 0 1, 0 1", "least 10 0 9 9, 0 0", "least 0 0 9 9",
                     "least 10 1 9 9, 0 0 0", "lack 200 0 1 1", "lack 10 0 1 1" + ", 0 1 1" * 6):
            self.assertRefused(desk, line, NoLine)

    def test_one_sign_off(self):
        for line in ("court", "wait", "settle 0", "kinds 0 1, 1 0", "turn come 0 1,stick 0", "least 5 0 0 1"):
            desk, model = Desk(), RetoldDesk()
            for first in ("house 2 free 1; 0 1 1 plain", "kinds 0 1, 1 0"):
                self.assertAlike(desk, model, first)
            for changed in off_by_one_sign(line):
                self.assertAlike(desk, model, changed)

    def test_any_signs(self):
        source = random.Random(38)
        desk, model = Desk(), RetoldDesk()
        for line in ("house " + SMALL, "kinds 0 1"):
            self.assertAlike(desk, model, line)
        for _ in range(3000):
            name = source.choice(("", "house ", "rule ", "deal ", "turn ", "kinds ", "settle ", "ill ", "least "))
            line = name + "".join(source.choice(SIGNS) for _ in range(source.randint(0, 6)))
            self.assertAlike(desk, model, line)


# A line that is refused, and the refusal, for a desk of HOUSE with kinds.
REFUSED = (
    ("house ", NoHouse), ("house 5 way 3 4", NoHouse), ("house  " + HOUSE, NoHouse), ("house " + HOUSE + " ", NoHouse),
    ("house 9 free; 0 1 1 plain", NoHouse), ("house 2 free; 0 1 1 plain\n", NoHouse),
    ("rule ", NoRule), ("rule sweeps", NoRule), ("rule  sweep", NoRule), ("rule sweep ", NoRule),
    ("rule table", NoRule), ("rule table ", NoRule), ("rule table " + "s" * 35, NoRule), ("rule near", NoRule),
    ("deal ", NoDeal), ("deal sweep", NoDeal), ("deal near ", NoDeal), ("deal zone 0 1", NoDeal),
    ("deal fixed", NoDeal), ("deal fixed 2", NoDeal), ("deal fixed 0 0 0 0 0 0 0 0 0 0", NoDeal),
    ("turn bogus", NoDeed), ("turn  ", NoDeed), ("turn come 0 1, come 0 1", NoDeed), ("turn ;", NoDeed),
    ("turn come 0 1,", NoDeed), ("turn come 0 1;come 0 1", NoDeed), ("turn come 0 1,fire,bogus", NoDeed),
    ("turn come 0 5", NoFloor, 5), ("turn come 9 0", NoFloor, 9), ("turn come 0 1,come 7 8", NoFloor, 7),
    ("turn come 2 2", NoRide), ("turn come 0 1,stick 0,come 2 2 key", NoRide), ("turn stick 2", NoLift, 2),
    ("turn come 0 1,come 1 0,fire,block 7", NoLift, 7), ("turn come 0 1,stick 3,bogus", NoLift, 3),
    ("kinds 0 0", NoRide), ("kinds 0 5", NoFloor, 5), ("kinds 6 5", NoFloor, 6), ("kinds 0 1, 2 2, 9 9", NoRide),
    ("kinds 0 1, 1 0, 2 0, 8 8", NoFloor, 8),
    ("ill ", NoIll), ("ill crowd", NoIll), ("ill crowd 1 and", NoIll), ("ill full 2", NoIll), ("ill open 0 5", NoIll),
    ("ill crowd 1 and bogus", NoIll), ("ill  crowd 1", NoIll),
    ("least 10 0 0 0", NoRide), ("least 10 0 5 0", NoFloor, 5), ("least 10 0 0 1, 1 2 6", NoFloor, 6),
    ("least 10 0 0 1, 1 2 2, 2 7 7", NoRide), ("lack 10 0 0 0", NoRide), ("lack 10 0 5 0", NoFloor, 5),
    ("lack 10 0 0 1, 1 2 6", NoFloor, 6),
)


class Refusals(DeskCase):
    def assertSame(self, desk, model):
        """What the desk keeps is what it kept: the state, who waits, and, played on, the tag, rule, dealer, kinds."""
        for line in ("court", "wait", "turn come 0 1,come 4 2,come 1 0", "court", "wait", "turn ", "court", "settle 0"):
            self.assertAlike(desk, model, line)

    def told(self):
        desk, model = Desk(), RetoldDesk()
        for line in ("house " + HOUSE, "rule homing", "deal turns", "kinds 0 1", "turn come 2 0,come 0 1,come 0 3",
                     "turn stick 1"):
            self.assertAlike(desk, model, line)
        return desk, model

    def test_each_refusal_with_nothing_changed_by_it(self):
        for line, *refusal in REFUSED:
            desk, model = self.told()
            self.assertRefused(desk, line, *refusal)
            self.assertEqual(model.say(line), (*refusal, None)[:2], line)
            self.assertSame(desk, model)

    def test_no_lines_with_nothing_changed_by_them(self):
        for line in NO_LINES[::3]:
            desk, model = self.told()
            self.assertRefused(desk, line, NoLine)
            self.assertSame(desk, model)

    def test_all_of_them_one_after_another(self):
        desk, model = self.told()
        for line, *refusal in REFUSED:
            self.assertRefused(desk, line, *refusal)
        for line in NO_LINES:
            self.assertRefused(desk, line, NoLine)
        self.assertSame(desk, model)

    def test_too_many_states(self):
        desk, model = Desk(), RetoldDesk()
        for line in ("house 8 way; 0 6 4 slow; 3 6 4 plain; 7 6 4 hasty", "rule nearest", "kinds 0 7, 7 0, 3 4, 5 1"):
            self.assertAlike(desk, model, line)
        for line in ("settle 0", "settle 3", "ill crowd 0", "ill crowd 9"):
            self.assertRefused(desk, line, TooMany, 500)
            self.assertAlike(desk, model, line)
        self.assertRefused(desk, "ill bogus", NoIll)
        self.assertRefused(desk, "settle 4", NoLine)
        self.assertSame(desk, model)

    def test_fewer_states_than_five_hundred_and_more(self):
        # 609 states by sweep of four kinds, 135 of three.
        desk = self.desk_of("house 3 way; 0 3 1 plain", "kinds 0 1, 1 0, 2 0, 0 2")
        self.assertRefused(desk, "ill crowd 5", TooMany, 500)
        self.assertSays(desk, ("kinds 0 1, 1 0, 2 0", "ok"), ("ill crowd 5", "safe 135"))
        desk = self.desk_of("house 4 way; 0 2 3 slow", "rule shuttle", "kinds 0 2, 2 0, 1 2")
        self.assertSays(desk, ("ill crowd 5", "safe 382"))


class Houses(DeskCase):
    def test_another_house_told_to_the_same_desk(self):
        desk, model = Desk(), RetoldDesk()
        for line in ("house " + HOUSE, "rule homing", "deal fixed 1", "kinds 0 1", "turn come 2 0,come 0 1",
                     "turn fire", "house " + SMALL, "court", "wait", "settle 0", "ill crowd 0", "turn come 2 0",
                     "turn ", "court", "wait", "kinds 0 2", "settle 0", "house " + HOUSE, "court",
                     "turn come 4 0,come 0 1", "court", "settle 0", "house 2 free; 1 1 1 plain", "rule shuttle",
                     "turn ", "court", "deal zone 0 0"):
            self.assertAlike(desk, model, line)

    def test_the_same_house_again(self):
        desk = self.desk_of("house " + SMALL, "rule " + STAYING, "turn come 2 0,stick 0", "kinds 0 1")
        self.assertSays(desk, ("house " + SMALL, "ok"), ("court", "0 out 0 0"), ("wait", "-"))
        self.assertRefused(desk, "settle 0", NoLine)
        self.assertSays(desk, ("turn come 2 0", "deal 0 0"), ("court", "1 up 0 0"))

    def test_two_desks_beside_each_other(self):
        source = random.Random(39)
        desks = [(Desk(), RetoldDesk()) for _ in range(2)]
        lines = ("turn come 0 2,come 1 0", "turn ", "court", "wait", "rule homing", "turn stick 0", "turn free 0",
                 "kinds 0 1", "kinds 1 0, 0 1", "settle 1", "ill crowd 1", "deal fixed 0", "house " + SMALL)
        self.assertRefused(desks[1][0], "court", NoLine)
        for desk, model in desks[:1]:
            self.assertAlike(desk, model, "house " + HOUSE)
        self.assertRefused(desks[1][0], "court", NoLine)
        self.assertAlike(*desks[1], "house 2 way; 1 1 1 slow")
        for _ in range(200):
            desk, model = source.choice(desks)
            self.assertAlike(desk, model, source.choice(lines))


OFTEN = ("turn",) * 12 + ("court", "wait") * 5


class Drawn(DeskCase):
    """Rows of lines, drawn, some of them broken."""

    def drawn_line(self, source, house):
        floors, lifts = house[0], len(house[1])
        name = source.choice(OFTEN + ("rule", "deal", "kinds", "settle", "ill", "least", "lack", "house"))
        if name == "house":
            return "house " + shown_house(drawn_house(source))
        if name == "rule":
            letters = "".join(source.choice("oxuds") for _ in range(36))
            return "rule " + source.choice(("sweep", "homing", "nearest", "shuttle", "table " + letters))
        if name == "deal":
            zone = " ".join(["zone"] + [str(source.randrange(lifts)) for _ in range(floors)])
            return "deal " + source.choice(("near", "least", "turns", zone, f"fixed 0 {lifts - 1}"))
        if name == "turn":
            return "turn " + shown_turn(drawn_deeds(source, house, WILD, 0, 4))
        if name == "ill":
            return f"ill {source.choice(('crowd', 'full', 'idle', 'away'))} {source.randrange(3)}"
        if name == "settle":
            return f"settle {source.randrange(2)}"
        return self.drawn_row(source, name, floors)

    def drawn_row(self, source, name, floors):
        def ride():
            return f"{source.randrange(floors)} {source.randrange(floors)}"

        if name == "kinds":
            return "kinds " + ", ".join(ride() for _ in range(source.randint(1, 2)))
        if name in ("least", "lack"):
            cames = sorted(source.choices(range(5), k=source.randint(1, 3)))
            return f"{name} 20 " + ", ".join(f"{came} {ride()}" for came in cames)
        return name

    def broken(self, source, line):
        place = source.randrange(len(line) + 1)
        return line[:place] + source.choice(SIGNS + [""]) + line[place + source.randrange(2):]

    def test_drawn_lines(self):
        source = random.Random(40)
        seen = set()
        for _ in range(30):
            desk, model = Desk(), RetoldDesk()
            house = drawn_house(source)
            self.assertAlike(desk, model, "house " + shown_house(house))
            for _ in range(60):
                line = self.drawn_line(source, model.house)
                line = self.broken(source, line) if source.random() < 0.15 else line
                self.assertAlike(desk, model, line)
                seen.add((read_line(line) or [None])[0])
        self.assertEqual(len(seen), 12)

    def test_turns_are_those_of_the_court(self):
        source = random.Random(41)
        for _ in range(20):
            house = drawn_house(source)
            desk = self.desk_of("house " + shown_house(house), "rule nearest", "deal least")
            court = Court(house, rule_of("nearest", house[0]), dealer_of("least", house))
            state, tag = court.begin(), 0
            for _ in range(40):
                deeds = drawn_deeds(source, house, WILD, 0, 4)
                told = desk.say("turn " + shown_turn(deeds))
                count = 0
                for place, deed in enumerate(deeds):
                    if deed[0] == "come":
                        deeds[place] = ("come", tag + count, *deed[2:])
                        count += 1
                tag += count
                state, log = court.turn(state, deeds)
                self.assertEqual(told, "; ".join(" ".join(map(str, entry)) for entry in log) or "-")


if __name__ == "__main__":
    unittest.main()
