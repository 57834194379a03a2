"""Rules of going: which word a cabin is told of what it sees."""

from liftcourt.errors import NoRule

WORDS = "oxuds"
TABLE_SIZE = 36
TABLE_START = "table "


def swept(light, here, up, down):
    if here == 2:
        return "o"
    if here == 1 and ((light == 1 and up == 0) or (light == -1 and down == 0)):
        return "x"
    if light == -1 and down > 0:
        return "d"
    if up > 0:
        return "u"
    return "d" if down > 0 else "s"


def nearest(here, up, down):
    if here > 0:
        return "o" if here == 2 else "x"
    if up > 0 and (down == 0 or down >= up):
        return "u"
    return "d" if down > 0 else "s"


def shuttled(top, floor, light, here):
    at_end = (floor == top and light == 1) or (floor == 0 and light == -1)
    if here == 2:
        return "o"
    if here == 1 and at_end:
        return "x"
    if light == -1:
        return "d" if floor != 0 else "u"
    return "u" if floor != top else "d"


def place_in_table(light, here, up, down):
    return 12 * (light + 1) + 4 * here + 2 * (1 if up > 0 else 0) + (1 if down > 0 else 0)


def seen_at(place):
    return (1, place // 12 - 1, place // 4 % 3, place // 2 % 2, place % 2)


class Rule:
    def word(self, seen):
        return swept(seen[1], seen[2], seen[3], seen[4])


class Homing(Rule):
    def word(self, seen):
        told = swept(seen[1], seen[2], seen[3], seen[4])
        return "d" if told == "s" and seen[0] != 0 else told


class Nearest(Rule):
    def word(self, seen):
        return nearest(seen[2], seen[3], seen[4])


class Shuttle(Rule):
    def __init__(self, top):
        self.top = top

    def word(self, seen):
        return shuttled(self.top, seen[0], seen[1], seen[2])


class Table(Rule):
    def __init__(self, letters):
        if len(letters) != TABLE_SIZE or any([letter not in WORDS for letter in letters]):
            raise NoRule(f"{letters!r} is no table")
        self.letters = letters

    def word(self, seen):
        return self.letters[place_in_table(seen[1], seen[2], seen[3], seen[4])]


def as_table(rule):
    return "".join([rule.word(seen_at(place)) for place in range(TABLE_SIZE)])


def rule_of(text, floors):
    if text == "sweep":
        return Rule()
    if text == "homing":
        return Homing()
    if text == "nearest":
        return Nearest()
    if text == "shuttle":
        return Shuttle(floors - 1)
    if text.startswith(TABLE_START):
        return Table(text[len(TABLE_START):])
    raise NoRule(f"{text!r} is no rule")
