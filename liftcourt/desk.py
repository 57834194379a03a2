"""Desks: told lines, they keep a court and a small house, and answer each line with a text."""

from liftcourt.courts import Court
from liftcourt.days import comings, read_turn
from liftcourt.dealing import dealer_of
from liftcourt.errors import NoLine
from liftcourt.graphs import NOBODY, need_kinds
from liftcourt.houses import read_house
from liftcourt.ills import ill_of, way_to
from liftcourt.least import lacks, least_of
from liftcourt.ranks import longest
from liftcourt.rules import rule_of
from liftcourt.words import number_of

HOUSE_START = "house "
FIRST_RULE = "sweep"
FIRST_DEALER = "near"
COMPARED = ("near", "least", "turns")
LIGHTS = {1: "up", 0: "out", -1: "down"}
MOST_STATES = 500
MOST_KINDS = 4
MOST_RIDERS = 6
MOST_TURNS = 100
DONE = "ok"
NOTHING = "-"


def need_line(fits, line):
    if not fits:
        raise NoLine(f"{line!r} is no line, or none yet")


def read_numbers(text, many):
    numbers = [number_of(word) for word in text.split(" ")]
    need_line(len(numbers) == many and None not in numbers, text)
    return tuple(numbers)


def read_rows(text, many):
    return [read_numbers(part, many) for part in text.split(", ")]


def restart(desk, court):
    desk.court = court
    desk.state = court.begin()
    desk.next_tag = 0
    return DONE


def say_house(desk, text):
    house = read_house(text)
    desk.kinds = []
    return restart(desk, Court(house, rule_of(FIRST_RULE, house[0]), dealer_of(FIRST_DEALER, house)))


def say_rule(desk, text):
    house = desk.court.house
    return restart(desk, Court(house, rule_of(text, house[0]), desk.court.dealer))


def say_deal(desk, text):
    house = desk.court.house
    return restart(desk, Court(house, desk.court.rule, dealer_of(text, house)))


def shown_entry(entry):
    return " ".join([str(word) for word in entry])


def say_turn(desk, text):
    deeds = read_turn(text, desk.court.house, desk.next_tag)
    told = desk.court.turn(desk.state, deeds)
    desk.state = told[0]
    desk.next_tag += len(comings(deeds))
    return "; ".join([shown_entry(entry) for entry in told[1]]) if told[1] else NOTHING


def shown_cabin(cabin):
    words = [str(cabin[0]), LIGHTS[cabin[1]], str(cabin[2]), str(cabin[3])]
    return " ".join(words + [f"{tag}>{goal}" for tag, goal in cabin[4]])


def say_court(desk):
    return "; ".join([shown_cabin(cabin) for cabin in desk.state[0]])


def say_wait(desk):
    riders = [f"{tag}@{start}>{goal}@{lift}" for tag, start, goal, lift in desk.state[1]]
    return " ".join(riders) if riders else NOTHING


def say_kinds(desk, text):
    kinds = read_rows(text, 2)
    need_line(len(kinds) <= MOST_KINDS, text)
    need_kinds(desk.court.house, kinds)
    desk.kinds = kinds
    return DONE


def shown_choices(row):
    return ["." if choice == NOBODY else str(choice) for choice in row]


def say_settle(desk, text):
    kind = read_numbers(text, 1)[0]
    need_line(kind < len(desk.kinds), text)
    told = longest(desk.court, desk.kinds, kind, MOST_STATES)
    if told[0] == "most":
        return " ".join(["most", str(told[1])] + shown_choices(told[2]))
    return " ".join(["never"] + shown_choices(told[1]) + ["/"] + shown_choices(told[2]))


def say_ill(desk, text):
    need_line(len(desk.kinds) > 0, text)
    told = way_to(desk.court, desk.kinds, ill_of(text, desk.court.house), MOST_STATES)
    if told[0] == "safe":
        return " ".join(["safe", str(told[1])])
    return " ".join(["ill"] + shown_choices(told[1]))


def fits_riders(riders, turns):
    cames = [came for came, start, goal in riders]
    return len(riders) <= MOST_RIDERS and cames == sorted(cames) and cames[-1] < turns <= MOST_TURNS


def read_riders(text):
    parts = text.partition(" ")
    turns = read_numbers(parts[0], 1)[0]
    riders = read_rows(parts[2], 3)
    need_line(fits_riders(riders, turns), text)
    return (riders, turns)


def say_least(desk, text):
    row = read_riders(text)
    told = least_of(desk.court.house, desk.court.rule, row[0], row[1])
    return " ".join([str(number) for number in (told[0],) + told[1]])


def say_lack(desk, text):
    row = read_riders(text)
    told = lacks(desk.court.house, desk.court.rule, row[0], row[1], list(COMPARED))
    return ", ".join([f"{name} {number}" for name, number in zip(COMPARED, told)])


def say_text(desk, name, text):
    if name == "rule":
        return say_rule(desk, text)
    if name == "deal":
        return say_deal(desk, text)
    if name == "turn":
        return say_turn(desk, text)
    if name == "kinds":
        return say_kinds(desk, text)
    if name == "settle":
        return say_settle(desk, text)
    if name == "ill":
        return say_ill(desk, text)
    if name == "least":
        return say_least(desk, text)
    if name == "lack":
        return say_lack(desk, text)
    raise NoLine(f"{name!r} begins no line")


class Desk:
    def __init__(self):
        self.court = None
        self.state = None
        self.next_tag = 0
        self.kinds = []

    def say(self, line):
        if line.startswith(HOUSE_START):
            return say_house(self, line[len(HOUSE_START):])
        need_line(self.court is not None, line)
        if line == "court":
            return say_court(self)
        if line == "wait":
            return say_wait(self)
        parts = line.partition(" ")
        # A line with a text has its blank, also where the text has no signs.
        need_line(parts[1] == " ", line)
        return say_text(self, parts[0], parts[2])
