"""Days: turns and days written and read, a day run, and what came of its riders."""

from liftcourt.deeds import need_deed
from liftcourt.errors import NoDeed
from liftcourt.words import number_of

DEEDS_OF_A_LIFT = ("block", "stick", "free", "goods", "back")
DEEDS_OF_ALL = ("fire", "calm")


def read_number(word):
    number = number_of(word)
    if number is None:
        raise NoDeed(f"{word!r} is no number")
    return number


def read_deed(part, tag):
    words = part.split(" ")
    name = words[0]
    if name == "come" and len(words) >= 3 and words[3:] in ([], ["key"]):
        return ("come", tag, read_number(words[1]), read_number(words[2]), len(words) > 3)
    if name in DEEDS_OF_A_LIFT and len(words) == 2:
        return (name, read_number(words[1]))
    if part in DEEDS_OF_ALL:
        return (part,)
    raise NoDeed(f"{part!r} is no deed")


def comings(deeds):
    return [deed for deed in deeds if deed[0] == "come"]


def read_turn(text, house, first=0):
    deeds = []
    tag = first
    # A split text has one part at least, but the text without signs has no deeds.
    parts = text.split(",") if text != "" else []
    for part in parts:
        deed = read_deed(part, tag)
        need_deed(house, deed)
        deeds.append(deed)
        if deed[0] == "come":
            tag += 1
    return deeds


def read_day(text, house):
    day = []
    first = 0
    for part in text.split(";"):
        deeds = read_turn(part, house, first)
        day.append(deeds)
        first += len(comings(deeds))
    return day


def shown_deed(deed):
    words = list(deed)
    if deed[0] == "come":
        words = ["come", deed[2], deed[3]] + (["key"] if deed[4] else [])
    return " ".join([str(word) for word in words])


def shown_turn(deeds):
    return ",".join([shown_deed(deed) for deed in deeds])


def shown_day(day):
    return ";".join([shown_turn(deeds) for deeds in day])


def run(court, state, day):
    steps = []
    before = state
    for deeds in day:
        step = court.turn(before, deeds)
        steps.append(step)
        before = step[0]
    return steps


def fate_of(entry, goal):
    if entry[0] == "in":
        return "aboard"
    if entry[0] == "out":
        return "out" if entry[3] == goal else "below"
    return entry[0]


def fates(day, steps):
    goals = {}
    told = {}
    for number, step in enumerate(steps):
        for name, tag, start, goal, key in comings(day[number]):
            goals[tag] = goal
            told[tag] = (tag, number, "waits", number)
        for entry in step[1]:
            tag = entry[1]
            # Who is dealt to a lift waits on.
            if entry[0] != "deal":
                told[tag] = (tag, told[tag][1], fate_of(entry, goals[tag]), number)
    return list(told.values())


def wait_of(came, fate, at, turns):
    if fate == "out":
        return at - came
    return turns - came if fate in ("waits", "aboard") else 0


def waits_of(fates_told, turns):
    return sum([wait_of(came, fate, at, turns) for tag, came, fate, at in fates_told])
