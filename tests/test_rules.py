"""Points 14 to 16: the rules, their tables, and the texts that they are read from."""

import itertools
import re
import unittest

from helpers import SIGNS, off_by_one_sign
from liftcourt.errors import NoRule
from liftcourt.rules import Homing, Nearest, Rule, Shuttle, Table, as_table, rule_of

LIGHTS = (-1, 0, 1)

# Of each light (-1, 0, 1) and each here (0, 1, 2): the letters with up and down 0 0, 0 1, 1 0, 1 1.
SWEEP_TABLE = "sdud xdxd oooo  sduu sduu oooo  sduu xxuu oooo".replace(" ", "")
HOMING_TABLE = "ddud xdxd oooo  dduu dduu oooo  dduu xxuu oooo".replace(" ", "")
NEAREST_TABLE = "sduu xxxx oooo  sduu xxxx oooo  sduu xxxx oooo".replace(" ", "")
SHUTTLE_TABLE = "dddd dddd oooo  uuuu uuuu oooo  uuuu uuuu oooo".replace(" ", "")
SHUTTLE_1_TABLE = "dddd dddd oooo  dddd dddd oooo  dddd xxxx oooo".replace(" ", "")
MIXED = "oxudsoxudsoxudsoxudsoxudsoxudsoxudso"


def all_seen(floors=8):
    for floor, light, here in itertools.product(range(floors), LIGHTS, (0, 1, 2)):
        for up, down in itertools.product(range(floors - floor), range(floor + 1)):
            yield (floor, light, here, up, down)


def expected_sweep(floor, light, here, up, down):
    if here == 2:
        return "o"
    ahead, behind = (down, up) if light == -1 else (up, down)
    if here == 1 and light != 0 and ahead == 0:
        return "x"
    forth, back = ("d", "u") if light == -1 else ("u", "d")
    return forth if ahead else back if behind else "s"


def expected_homing(floor, light, here, up, down):
    told = expected_sweep(floor, light, here, up, down)
    return {"s": "d" if floor else "s"}.get(told, told)


def expected_nearest(floor, light, here, up, down):
    if here:
        return " xo"[here]
    nearest = min([(up, "u"), (down, "d")], key=lambda pair: pair[0] or 99)
    return nearest[1] if nearest[0] else "s"


def expected_shuttle(top):
    def told(floor, light, here, up, down):
        end, forth, back = (0, "d", "u") if light == -1 else (top, "u", "d")
        if here == 2:
            return "o"
        if here == 1 and light and floor == end:
            return "x"
        return back if floor == end else forth
    return told


def is_rule_text(text):
    return re.fullmatch("sweep|homing|nearest|shuttle|table [oxuds]{36}", text) is not None


class Recording(Rule):
    """A rule of the asker's own, which keeps what it was asked."""

    def __init__(self):
        self.asked = []

    def word(self, seen):
        self.asked.append(seen)
        return MIXED[len(self.asked) - 1]


class Case(unittest.TestCase):
    def assertWord(self, rule, seen, expected):
        told = rule.word(seen)
        self.assertEqual(told, expected, (type(rule).__name__, seen))
        self.assertIs(type(told), str)

    def assertNoRule(self, function, *things):
        with self.assertRaises(NoRule, msg=repr(things)) as taken:
            function(*things)
        self.assertIs(type(taken.exception), NoRule)


class Standing(unittest.TestCase):
    def test_the_last_four_stand_straight_under_rule(self):
        for rule_class in (Homing, Nearest, Shuttle, Table):
            self.assertEqual(rule_class.__bases__, (Rule,))

    def test_none_of_them_stands_under_another_one(self):
        for one, other in itertools.permutations((Homing, Nearest, Shuttle, Table), 2):
            self.assertFalse(issubclass(one, other))


class Words(Case):
    def test_rule(self):
        for seen in all_seen():
            self.assertWord(Rule(), seen, expected_sweep(*seen))

    def test_homing(self):
        for seen in all_seen():
            self.assertWord(Homing(), seen, expected_homing(*seen))

    def test_nearest(self):
        for seen in all_seen():
            self.assertWord(Nearest(), seen, expected_nearest(*seen))

    def test_shuttle(self):
        for floors in range(2, 9):
            rule = Shuttle(floors - 1)
            for seen in all_seen(floors):
                self.assertWord(rule, seen, expected_shuttle(floors - 1)(*seen))

    def test_rule_at_its_edges(self):
        for seen, word in [
            ((2, 1, 1, 0, 1), "x"), ((2, 1, 1, 1, 0), "u"), ((2, -1, 1, 1, 0), "x"), ((2, -1, 1, 0, 1), "d"),
            ((2, 0, 1, 0, 0), "s"), ((2, 0, 1, 0, 2), "d"), ((2, 0, 1, 3, 0), "u"), ((2, 1, 0, 0, 0), "s"),
            ((2, -1, 0, 5, 1), "d"), ((2, -1, 0, 5, 0), "u"), ((2, 1, 0, 5, 1), "u"), ((2, 1, 0, 0, 1), "d"),
            ((2, 0, 0, 5, 1), "u"), ((2, 1, 2, 0, 0), "o"), ((2, -1, 2, 1, 1), "o"),
        ]:
            self.assertWord(Rule(), seen, word)

    def test_homing_at_its_edges(self):
        for seen, word in [
            ((0, 0, 0, 0, 0), "s"), ((1, 0, 0, 0, 0), "d"), ((7, 1, 0, 0, 0), "d"), ((0, 1, 0, 0, 0), "s"),
            ((0, 0, 1, 0, 0), "s"), ((3, 0, 1, 0, 0), "d"), ((3, 1, 1, 0, 0), "x"), ((3, 0, 0, 2, 0), "u"),
        ]:
            self.assertWord(Homing(), seen, word)

    def test_nearest_at_its_edges(self):
        for seen, word in [
            ((3, 0, 0, 2, 2), "u"), ((3, 0, 0, 2, 1), "d"), ((3, 0, 0, 1, 2), "u"), ((3, -1, 0, 2, 2), "u"),
            ((3, 1, 0, 2, 1), "d"), ((3, 0, 0, 4, 0), "u"), ((3, 0, 0, 0, 3), "d"), ((3, 1, 0, 0, 0), "s"),
            ((3, 0, 1, 2, 2), "x"), ((3, 1, 1, 2, 2), "x"), ((3, 1, 2, 2, 2), "o"),
        ]:
            self.assertWord(Nearest(), seen, word)

    def test_shuttle_at_its_edges(self):
        for seen, word in [
            ((4, 1, 1, 0, 1), "x"), ((4, 1, 0, 0, 1), "d"), ((4, 0, 1, 0, 1), "d"), ((4, -1, 1, 0, 1), "d"),
            ((0, -1, 1, 1, 0), "x"), ((0, -1, 0, 1, 0), "u"), ((0, 0, 1, 1, 0), "u"), ((0, 1, 1, 1, 0), "u"),
            ((3, 1, 1, 0, 0), "u"), ((1, -1, 1, 0, 0), "d"), ((4, 1, 2, 0, 0), "o"), ((0, 0, 0, 0, 0), "u"),
        ]:
            self.assertWord(Shuttle(4), seen, word)

    def test_being_asked_changes_nothing(self):
        for rule in (Rule(), Homing(), Nearest(), Shuttle(7), Table(MIXED)):
            asked = list(all_seen(4))
            forth = [rule.word(seen) for seen in asked]
            back = [rule.word(seen) for seen in asked[::-1]]
            self.assertEqual(forth, back[::-1])


class Tables(Case):
    def test_the_letter_of_each_number(self):
        for letters in (MIXED, MIXED[::-1], "o" * 35 + "x", "s" + "d" * 35):
            for seen in all_seen():
                floor, light, here, up, down = seen
                number = {-1: 0, 0: 12, 1: 24}[light] + 4 * here + (2 if up else 0) + (1 if down else 0)
                self.assertWord(Table(letters), seen, letters[number])

    def test_36_letters_of_the_five(self):
        for letter in "oxuds":
            self.assertWord(Table(letter * 36), (0, 0, 0, 0, 0), letter)

    def test_too_few_and_too_many_letters(self):
        for many in list(range(36)) + [37, 38, 72, 2000]:
            self.assertNoRule(Table, "o" * many)
        self.assertNoRule(Table, MIXED[1:])
        self.assertNoRule(Table, MIXED + "o")

    def test_a_sign_that_is_no_letter_at_any_place(self):
        for place in range(36):
            for sign in SIGNS:
                if sign not in "oxuds":
                    self.assertNoRule(Table, MIXED[:place] + sign + MIXED[place + 1:])

    def test_too_many_letters_with_a_sign_that_is_none(self):
        for text in (MIXED + " ", " " + MIXED, MIXED + "\n", MIXED.upper()):
            self.assertNoRule(Table, text)

    def test_a_refused_table_changes_nothing(self):
        rule = Table(MIXED)
        self.assertNoRule(Table, MIXED + "o")
        self.assertEqual(as_table(rule), MIXED)


class AsTable(Case):
    def assertTable(self, rule, letters):
        told = as_table(rule)
        self.assertIs(type(told), str)
        self.assertEqual(told, letters)

    def test_the_table_of_each_rule(self):
        self.assertTable(Rule(), SWEEP_TABLE)
        self.assertTable(Homing(), HOMING_TABLE)
        self.assertTable(Nearest(), NEAREST_TABLE)
        self.assertTable(Shuttle(1), SHUTTLE_1_TABLE)
        for top in range(2, 8):
            self.assertTable(Shuttle(top), SHUTTLE_TABLE)

    def test_the_table_of_a_table_is_its_letters(self):
        for letters in (MIXED, MIXED[::-1], SWEEP_TABLE, HOMING_TABLE, "u" * 36):
            self.assertTable(Table(letters), letters)

    def test_the_table_of_rules_table_tells_what_rule_tells(self):
        table = Table(as_table(Rule()))
        for seen in all_seen():
            self.assertWord(table, seen, Rule().word(seen))

    def test_a_rule_of_the_askers_own_is_asked_in_order_at_floor_1(self):
        rule = Recording()
        self.assertTable(rule, MIXED)
        expected = list(itertools.product((1,), LIGHTS, (0, 1, 2), (0, 1), (0, 1)))
        self.assertEqual(rule.asked, expected)
        for seen in rule.asked:
            self.assertIs(type(seen), tuple)
            self.assertEqual([type(part) for part in seen], [int] * 5)


class Reading(Case):
    def test_each_text(self):
        for floors in range(2, 9):
            self.assertIs(type(rule_of("sweep", floors)), Rule)
            self.assertIs(type(rule_of("homing", floors)), Homing)
            self.assertIs(type(rule_of("nearest", floors)), Nearest)
            self.assertIs(type(rule_of("shuttle", floors)), Shuttle)
            self.assertIs(type(rule_of("table " + MIXED, floors)), Table)
            self.assertEqual(as_table(rule_of("table " + MIXED, floors)), MIXED)

    def test_shuttle_is_of_the_houses_highest_floor(self):
        for floors in range(2, 9):
            rule = rule_of("shuttle", floors)
            for seen in all_seen(floors):
                self.assertWord(rule, seen, expected_shuttle(floors - 1)(*seen))

    def test_texts_off_by_one_sign(self):
        read = 0
        for text in ("sweep", "homing", "nearest", "shuttle", "table " + MIXED):
            for other in off_by_one_sign(text):
                if not is_rule_text(other):
                    self.assertNoRule(rule_of, other, 5)
                elif other != text:
                    self.assertEqual(as_table(rule_of(other, 5)), other[len("table "):])
                    read += 1
        self.assertGreater(read, 100)

    def test_other_texts(self):
        for text in ("", " ", "table", "table ", "table  " + MIXED, "table" + MIXED, "table\n" + MIXED, MIXED):
            self.assertNoRule(rule_of, text, 5)
        for text in ("Sweep", "sweep ", " sweep", "sweep homing", "sweep\n", "rule", "Rule", "shuttle 4", "s"):
            self.assertNoRule(rule_of, text, 5)
        for text in ("table " + MIXED[1:], "table " + MIXED + "o", "table " + MIXED + " ", " table " + MIXED):
            self.assertNoRule(rule_of, text, 5)
        for text in ("table " + "o" * 1994, "x" * 2000, "sweep" * 400, "table " + MIXED[:18] + " " + MIXED[18:]):
            self.assertNoRule(rule_of, text, 5)

    def test_what_is_done_to_a_rule_changes_no_other_one(self):
        rule_of("shuttle", 5).top = 2
        self.assertWord(rule_of("shuttle", 5), (2, 1, 0, 0, 0), "u")
        told = as_table(Rule())
        rule_of("sweep", 5).word = None
        self.assertEqual(as_table(rule_of("sweep", 5)), told)


if __name__ == "__main__":
    unittest.main()
