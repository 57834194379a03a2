"""Point 24: turns and days written and read."""

import random
import unittest

from chances import WILD, drawn_deed, drawn_house
from helpers import SIGNS, off_by_one_sign
from liftcourt.days import read_day, read_turn, shown_day, shown_turn
from liftcourt.errors import CourtError, NoDeed, NoFloor, NoLift, NoRide
from liftcourt.houses import read_house
from restated_days import expected_read, expected_read_day

HOUSE = read_house("5 way 3 4; 0 2 1 plain; 4 3 2 hasty")
EIGHT = read_house("8 free; 0 1 1 plain; 1 1 1 plain; 2 1 1 plain")
HUGE = 10 ** 60 - 100
OF_A_LIFT = ("block", "stick", "free", "goods", "back")
OF_ALL = ("fire", "calm")


def without_tags(day):
    return [[deed[:1] + deed[2:] if deed[0] == "come" else deed for deed in deeds] for deeds in day]


def drawn_day(source, house, most_turns=8, most_deeds=6):
    """A day of the house whose tags are unlike, in no order."""
    tags = source.sample(range(10 ** 6), most_turns * most_deeds)
    return [
        [drawn_deed(source, house, WILD, tags.pop()) for _ in range(source.randint(0, most_deeds))]
        for _ in range(source.randint(1, most_turns))
    ]


class Case(unittest.TestCase):
    def assertKinds(self, deeds):
        self.assertIs(type(deeds), list)
        for deed in deeds:
            self.assertIs(type(deed), tuple)
            forms = {"come": [str, int, int, int, bool], "fire": [str], "calm": [str]}
            self.assertEqual([type(part) for part in deed], forms.get(deed[0], [str, int]))

    def assertReads(self, text, deeds, house=HOUSE, first=0):
        told = read_turn(text, house, first)
        self.assertEqual(told, deeds, text)
        self.assertKinds(told)
        self.assertEqual(expected_read(text, house, first), deeds)

    def assertReadsDay(self, text, day, house=HOUSE):
        told = read_day(text, house)
        self.assertIs(type(told), list)
        self.assertEqual(told, day, text)
        for deeds in told:
            self.assertKinds(deeds)
        self.assertEqual(expected_read_day(text, house), day)

    def assertRaisesJust(self, error, field, call, *handed):
        with self.assertRaises(CourtError) as caught:
            call(*handed)
        self.assertIs(type(caught.exception), error, handed)
        names = {NoFloor: "floor", NoLift: "lift"}
        if error in names:
            told = getattr(caught.exception, names[error])
            self.assertIs(type(told), int)
            self.assertEqual(told, field, handed)

    def assertRefused(self, text, error, field=None, house=HOUSE):
        self.assertRaisesJust(error, field, read_turn, text, house)
        self.assertRaisesJust(error, field, read_turn, text, house, 7)
        self.assertRaisesJust(error, field, read_day, text, house)
        self.assertRaisesJust(error, field, read_day, ";fire;" + text + ";nothing", house)
        self.assertEqual(expected_read(text, house), (error, field))


class Written(Case):
    def test_each_deed(self):
        for start in range(8):
            for goal in range(8):
                self.assertEqual(shown_turn([("come", 3, start, goal, False)]), f"come {start} {goal}")
                self.assertEqual(shown_turn([("come", HUGE, start, goal, True)]), f"come {start} {goal} key")
        for name in OF_A_LIFT:
            for lift in range(3):
                self.assertEqual(shown_turn([(name, lift)]), f"{name} {lift}")
        for name in OF_ALL:
            self.assertEqual(shown_turn([(name,)]), name)

    def test_several_deeds(self):
        deeds = [("come", 9, 0, 2, True), ("fire",), ("stick", 1), ("come", 4, 2, 0, False), ("calm",), ("calm",)]
        self.assertEqual(shown_turn(deeds), "come 0 2 key,fire,stick 1,come 2 0,calm,calm")

    def test_no_deeds(self):
        self.assertEqual(shown_turn([]), "")
        self.assertEqual(shown_day([[]]), "")
        self.assertEqual(shown_day([[], []]), ";")
        self.assertEqual(shown_day([[], [("fire",)], [], []]), ";fire;;")

    def test_days(self):
        self.assertEqual(shown_day([[("come", 5, 1, 0, False)]]), "come 1 0")
        day = [[("come", 5, 1, 0, False), ("block", 0)], [], [("free", 2), ("come", 0, 0, 1, True)]]
        self.assertEqual(shown_day(day), "come 1 0,block 0;;free 2,come 0 1 key")

    def test_what_is_handed_in_stays(self):
        day = [[("come", 5, 1, 0, True), ("block", 0)], []]
        shown_turn(day[0])
        shown_day(day)
        self.assertEqual(day, [[("come", 5, 1, 0, True), ("block", 0)], []])


class Read(Case):
    def test_each_deed(self):
        for start in range(8):
            for goal in range(8):
                if start != goal:
                    self.assertReads(f"come {start} {goal}", [("come", 0, start, goal, False)], EIGHT)
                    self.assertReads(f"come {start} {goal} key", [("come", 0, start, goal, True)], EIGHT)
        for name in OF_A_LIFT:
            for lift in range(3):
                self.assertReads(f"{name} {lift}", [(name, lift)], EIGHT)
        for name in OF_ALL:
            self.assertReads(name, [(name,)], EIGHT)

    def test_a_locked_goal_without_a_key_is_read(self):
        self.assertReads("come 0 4", [("come", 0, 0, 4, False)])

    def test_the_text_without_signs(self):
        self.assertReads("", [])
        self.assertReads("", [], first=5)
        self.assertReadsDay("", [[]])

    def test_days_of_several_turns(self):
        self.assertReadsDay(";", [[], []])
        self.assertReadsDay(";;;", [[], [], [], []])
        self.assertReadsDay("fire", [[("fire",)]])
        self.assertReadsDay("fire;", [[("fire",)], []])
        self.assertReadsDay(";fire,calm;block 1", [[], [("fire",), ("calm",)], [("block", 1)]])

    def test_tags_of_a_turn(self):
        text = "come 0 1,fire,come 1 0 key,come 0 3,stick 0,come 0 1"
        for first in (0, 1, 17, HUGE):
            tags = [deed[1] for deed in read_turn(text, HOUSE, first) if deed[0] == "come"]
            self.assertEqual(tags, [first, first + 1, first + 2, first + 3])
            named = read_turn(text=text, house=HOUSE, first=first)
            self.assertEqual(named, read_turn(text, HOUSE, first))
            self.assertEqual(named, expected_read(text, HOUSE, first))
        self.assertEqual(read_turn(text, HOUSE), read_turn(text, HOUSE, 0))

    def test_tags_of_a_day_go_on_over_its_turns(self):
        day = read_day("come 0 1,come 0 4;;fire,come 1 2;come 2 1 key,block 0,come 3 0", HOUSE)
        tags = [[deed[1] for deed in deeds if deed[0] == "come"] for deeds in day]
        self.assertEqual(tags, [[0, 1], [], [2], [3, 4]])

    def test_a_long_turn_and_a_long_day(self):
        deeds = [("come", tag, 0, 1, False) for tag in range(60)]
        self.assertReads(",".join(["come 0 1"] * 60), deeds)
        day = [[("come", tag, 1, 0, False)] if tag % 2 == 0 else [("fire",)] for tag in range(200)]
        told = read_day(";".join(["come 1 0", "fire"] * 100), HOUSE)
        self.assertEqual(without_tags(told), without_tags(day))
        self.assertEqual([deeds[0][1] for deeds in told if deeds[0][0] == "come"], list(range(100)))

    def test_what_is_told_is_the_askers_own(self):
        for read in (read_turn, read_day):
            told = read("come 0 1,fire", HOUSE)
            told.append(("calm",))
            told[0] = None
            again = read("come 0 1,fire", HOUSE)
            self.assertEqual(str(again).count("calm"), 0)
            self.assertNotIn(None, again)
        day = read_day(";", HOUSE)
        day[0].append(("fire",))
        self.assertEqual(day[1], [])


class WrittenAndRead(Case):
    def test_drawn_days(self):
        source = random.Random(24)
        for _ in range(300):
            house = drawn_house(source)
            day = drawn_day(source, house)
            told = read_day(shown_day(day), house)
            self.assertEqual(without_tags(told), without_tags(day))
            tags = [deed[1] for deeds in told for deed in deeds if deed[0] == "come"]
            self.assertEqual(tags, list(range(len(tags))))
            for deeds in day:
                first = source.choice((0, 3, HUGE))
                behind = read_turn(shown_turn(deeds), house, first)
                self.assertEqual(without_tags([behind]), without_tags([deeds]))
                tags = [deed[1] for deed in behind if deed[0] == "come"]
                self.assertEqual(tags, list(range(first, first + len(tags))))

    def test_what_is_read_is_written_as_it_was(self):
        for text in ("", ";", "come 0 1 key", "fire;calm,come 1 0;;goods 1", "back 0,free 1,stick 0,block 1"):
            self.assertEqual(shown_day(read_day(text, HOUSE)), text)


class NoDeeds(Case):
    def test_parts_that_are_none(self):
        for part in (
            " ", "come", "come 0", "come 0 1 2", "come 0 1 Key", "come 0 1 key key", "come 0 1 no", "come key",
            "come 0 key", "come key 0 1", "Come 0 1", "COME 0 1", "comes 0 1", "0 1", "come a b", "come 0 b",
            "block", "block 0 1", "block key", "block 0 key", "Block 0", "stick", "free", "goods", "back", "block a",
            "fire 0", "calm 0", "fire key", "Fire", "calmness", "burn", "barred", "come 0 1\n", "\nfire", "fire\n",
            "come\n0 1", "come 0-1", "block -1", "come -1 0", "come 0 -1", "come +0 1", "block +1", "come 0 1.0",
            "block 0x1", "block 1_0", "-", "key", "wait 0", "stick 0 0", "come  1", "come 0  key", "block ",
        ):
            self.assertRefused(part, NoDeed)
            self.assertRefused("fire," + part, NoDeed)
            self.assertRefused(part + ",fire", NoDeed)

    def test_a_blank_too_many(self):
        for text in ("come 0 1", "come 0 1 key", "block 0", "fire", "calm,stick 1", "come 0 1,come 1 0"):
            for place in range(len(text) + 1):
                self.assertRefused(text[:place] + " " + text[place:], NoDeed)

    def test_a_comma_too_many(self):
        for text in (
            ",", ",,", "fire,", ",fire", "fire,,calm", "come 0 1,", ",come 0 1", "come 0 1,,block 0", "fire, calm",
            "fire ,calm", "come,0,1", "block,0", "come 0,1", "come 0 1,key",
        ):
            self.assertRefused(text, NoDeed)

    def test_in_days_too(self):
        for text in (";,", "fire,;", "fire; calm", "fire ;calm", " ;", "; ", "fire;calm;come 0", "fire.calm", "fire:"):
            self.assertRaisesJust(NoDeed, None, read_day, text, HOUSE)
        # The sign that parts turns parts nothing within one.
        for text in (";", "fire;calm", "come 0 1;come 1 0", ";fire"):
            self.assertRaisesJust(NoDeed, None, read_turn, text, HOUSE)

    def test_numbers_that_are_none(self):
        for word in ("00", "01", "000000001", "1000000000", "9999999999", "", "a", "1a", "1.", "1e0", "1" * 1000):
            for text in (f"come {word} 0", f"come 0 {word}", f"come 0 {word} key", f"block {word}", f"back {word}"):
                self.assertRefused(text, NoDeed)

    def test_texts_off_by_one_sign(self):
        texts = ("come 0 1", "come 3 0 key", "block 0", "stick 1", "free 0", "goods 1", "back 0", "fire", "calm")
        kinds = set()
        for text in texts + ("come 1 2,fire", "calm,back 1,come 4 0 key"):
            for other in off_by_one_sign(text):
                kinds.add(self.assertReadsAsToldOf(read_turn, expected_read, other))
        self.assertEqual(kinds, {None, NoDeed, NoFloor, NoRide, NoLift})

    def test_days_off_by_one_sign(self):
        for text in ("", ";", "come 0 1;fire", "block 1,come 2 0;;come 1 0"):
            for other in off_by_one_sign(text):
                self.assertReadsAsToldOf(read_day, expected_read_day, other)

    def assertReadsAsToldOf(self, read, expected_by, text):
        """The class of the refusal, or None."""
        expected = expected_by(text, HOUSE)
        if isinstance(expected, tuple):
            self.assertRaisesJust(*expected, read, text, HOUSE)
            return expected[0]
        self.assertEqual(read(text, HOUSE), expected, text)
        return None

    def test_single_signs(self):
        for sign in SIGNS:
            if sign != ";":
                self.assertRefused(sign, NoDeed)


class RefusedParts(Case):
    def test_floors(self):
        for floor in (5, 6, 10, 999999999):
            self.assertRefused(f"come {floor} 0", NoFloor, floor)
            self.assertRefused(f"come 0 {floor}", NoFloor, floor)
            self.assertRefused(f"come {floor} 0 key", NoFloor, floor)
            self.assertRefused(f"come {floor} {floor}", NoFloor, floor)
            self.assertRefused(f"come {floor} 7", NoFloor, floor)

    def test_rides(self):
        for floor in range(5):
            self.assertRefused(f"come {floor} {floor}", NoRide)
            self.assertRefused(f"come {floor} {floor} key", NoRide)

    def test_lifts(self):
        for name in OF_A_LIFT:
            for lift in (2, 3, 10, 999999999):
                self.assertRefused(f"{name} {lift}", NoLift, lift)

    def test_the_houses_own_bounds(self):
        two = read_house("2 free; 0 1 1 plain")
        self.assertReads("come 7 6,block 2", [("come", 0, 7, 6, False), ("block", 2)], EIGHT)
        self.assertRefused("come 8 0", NoFloor, 8, EIGHT)
        self.assertRefused("block 3", NoLift, 3, EIGHT)
        self.assertRefused("come 0 2", NoFloor, 2, two)
        self.assertRefused("block 1", NoLift, 1, two)

    def test_a_part_that_is_no_deed_is_not_asked_by_18(self):
        for text in ("come 9 0 Key", "come 9 09", "come 1 1 1", "block 9 0", "come 9"):
            self.assertRefused(text, NoDeed)

    def test_the_first_part_of_a_turn_counts(self):
        wrong = {"come 9 0": (NoFloor, 9), "come 0 8": (NoFloor, 8), "come 1 1": (NoRide, None),
                 "block 5": (NoLift, 5), "what": (NoDeed, None), "": (NoDeed, None), "come 0 01": (NoDeed, None)}
        for one, refusal in wrong.items():
            for other in wrong:
                self.assertRefused(f"fire,{one},calm,{other}", *refusal)
                self.assertRefused(f"come 0 1,{one},{other}", *refusal)

    def test_the_first_turn_of_a_day_counts(self):
        wrong = {"come 9 0": (NoFloor, 9), "come 1 1": (NoRide, None), "block 5": (NoLift, 5), "what": (NoDeed, None),
                 ",": (NoDeed, None)}
        for one, refusal in wrong.items():
            for other in wrong:
                self.assertRaisesJust(*refusal, read_day, f";fire,{one};calm;{other},fire", HOUSE)


if __name__ == "__main__":
    unittest.main()
