"""Point 38 once more, told from the document's words: a grammar for lines, and their answers by the restated turns."""

import re

from liftcourt.courts import Court
from liftcourt.errors import CourtError, NoDeal, NoFloor, NoHouse, NoIll, NoLine, NoRide, NoRule, TooMany
from liftcourt.graphs import graph_of
from liftcourt.rules import rule_of
from restated import expected_deal, expected_turn
from restated_days import expected_read
from restated_graphs import expected_ill, expected_parts
from restated_houses import expected_house
from restated_least import all_waits, first_state, waits_by

NUMBER = "(?:0|[1-9][0-9]{0,8})"
PAIR = f"{NUMBER} {NUMBER}"
TRIPLE = f"{NUMBER} {NUMBER} {NUMBER}"
LINES = {
    "house": "house ((?:.|\n)*)", "rule": "rule ((?:.|\n)*)", "deal": "deal ((?:.|\n)*)", "turn": "turn ((?:.|\n)*)",
    "ill": "ill ((?:.|\n)*)", "court": "court()", "wait": "wait()", "kinds": f"kinds ({PAIR}(?:, {PAIR}){{0,3}})",
    "settle": f"settle ({NUMBER})", "least": f"least ({NUMBER} {TRIPLE}(?:, {TRIPLE}){{0,5}})",
    "lack": f"lack ({NUMBER} {TRIPLE}(?:, {TRIPLE}){{0,5}})",
}
FIELDS = ("floor", "lift", "tag", "most")


def refusal_in(error):
    """The class of a refusal and the number in its field, if it has one."""
    told = [getattr(error, name) for name in FIELDS if hasattr(error, name)]
    return (type(error), told[0] if told else None)


def said(desk, line):
    """What a desk answers, or the refusal."""
    try:
        return desk.say(line)
    except CourtError as error:
        return refusal_in(error)


def read_line(line):
    for name, pattern in LINES.items():
        found = re.fullmatch(pattern, line)
        if found:
            return (name, found.group(1))
    return None


def numbers_in(text):
    return [tuple(int(word) for word in part.split(" ")) for part in text.split(", ")]


def ride_refusal(house, rides):
    for start, goal in rides:
        for floor in (start, goal):
            if floor not in range(house[0]):
                return (NoFloor, floor)
        if start == goal:
            return (NoRide, None)
    return None


def dealer_pattern(house):
    lift = f" [0-{len(house[1]) - 1}]"
    return f"near|least|turns|zone(?:{lift}){{{house[0]}}}|fixed(?:{lift}){{1,9}}"


def row_as_words(row):
    return " ".join("." if choice == -1 else str(choice) for choice in row)


class RetoldDesk:
    """Answers are texts, refusals pairs of a class and a field; what is free is a tuple that begins with its name."""

    def __init__(self):
        self.house = None

    def say(self, line):
        read = read_line(line)
        if read is None or (self.house is None and read[0] != "house"):
            return (NoLine, None)
        return getattr(self, "say_" + read[0])(read[1])

    def begin(self):
        self.state, self.tag = first_state(self.house), 0
        return "ok"

    def court(self):
        text = self.dealer_text
        return Court(self.house, self.rule, lambda *handed: expected_deal(text, *handed))

    def say_house(self, text):
        house = expected_house(text)
        if house is None:
            return (NoHouse, None)
        self.house, self.rule, self.dealer_text, self.kinds = house, rule_of("sweep", house[0]), "near", []
        return self.begin()

    def say_rule(self, text):
        if not re.fullmatch("sweep|homing|nearest|shuttle|table [oxuds]{36}", text):
            return (NoRule, None)
        self.rule = rule_of(text, self.house[0])
        return self.begin()

    def say_deal(self, text):
        if not re.fullmatch(dealer_pattern(self.house), text):
            return (NoDeal, None)
        self.dealer_text = text
        return self.begin()

    def say_turn(self, text):
        deeds = expected_read(text, self.house, self.tag)
        if isinstance(deeds, tuple):
            return deeds
        self.state, log = expected_turn(self.house, self.rule, self.court().dealer, self.state, deeds)
        self.tag += text.count("come")
        return "; ".join(" ".join(str(word) for word in entry) for entry in log) or "-"

    def say_court(self, text):
        parts = []
        for place, light, door, marks, aboard in self.state[0]:
            riders = "".join(f" {tag}>{goal}" for tag, goal in aboard)
            parts.append(f"{place} {['out', 'up', 'down'][light]} {door} {marks}{riders}")
        return "; ".join(parts)

    def say_wait(self, text):
        return " ".join(f"{tag}@{start}>{goal}@{lift}" for tag, start, goal, lift in self.state[1]) or "-"

    def say_kinds(self, text):
        kinds = numbers_in(text)
        refusal = ride_refusal(self.house, kinds)
        if refusal:
            return refusal
        self.kinds = kinds
        return "ok"

    def graph(self):
        try:
            return graph_of(self.court(), self.kinds, 500)
        except TooMany as error:
            return refusal_in(error)

    def say_settle(self, text):
        if int(text) >= len(self.kinds):
            return (NoLine, None)
        graph = self.graph()
        return graph if len(graph) == 2 else ("settle", int(text))

    def say_ill(self, text):
        if not self.kinds:
            return (NoLine, None)
        if expected_parts(text, self.house) is None:
            return (NoIll, None)
        graph = self.graph()
        if len(graph) == 2:
            return graph
        states, ways, firsts = graph
        ills = [number for number, state in enumerate(states) if expected_ill(text, self.house)(state)]
        if not ills:
            return f"safe {len(states)}"
        row, number = [], ills[0]
        while firsts[number]:
            number, choice = firsts[number]
            row.insert(0, choice)
        return ("ill " + row_as_words(row)).strip()

    def read_row(self, text):
        turns, row = text.split(" ", 1)
        riders = numbers_in(row)
        cames = [rider[0] for rider in riders]
        if int(turns) not in range(1, 101) or cames != sorted(cames) or max(cames) >= int(turns):
            return (NoLine, None)
        return ride_refusal(self.house, [rider[1:] for rider in riders]) or (riders, int(turns), "row")

    def say_least(self, text):
        row = self.read_row(text)
        return ("least", row[0], row[1]) if len(row) == 3 else row

    def say_lack(self, text):
        row = self.read_row(text)
        if len(row) == 2:
            return row
        riders, turns, name = row
        least = min(all_waits(self.house, self.rule, riders, turns).values())
        waits = [waits_by(self.house, self.rule, riders, name, turns) for name in ("near", "least", "turns")]
        return "near {}, least {}, turns {}".format(*[there - least for there in waits])
