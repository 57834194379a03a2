"""Points 24 and 25 once more, told from the document's words: a grammar for texts, and fates seen in the states."""

import re

from liftcourt.errors import NoDeed, NoFloor, NoLift, NoRide

NUMBER = "(0|[1-9][0-9]{0,8})"
PART = re.compile(f"come {NUMBER} {NUMBER}( key)?|(block|stick|free|goods|back) {NUMBER}|(fire|calm)")


def refusal_of(house, deed):
    """The refusal of a deed by point 18 and its field, or None."""
    if deed[0] == "come":
        for floor in deed[2:4]:
            if floor not in range(house[0]):
                return (NoFloor, floor)
        return (NoRide, None) if deed[2] == deed[3] else None
    if len(deed) == 2 and deed[1] not in range(len(house[1])):
        return (NoLift, deed[1])
    return None


def expected_read(text, house, first=0):
    """The deeds of a turn's text, or the refusal that counts and its field."""
    deeds = []
    for part in re.split(",", text) if text else ():
        found = PART.fullmatch(part)
        if not found:
            return (NoDeed, None)
        start, goal, key, name, lift, alone = found.groups()
        if alone:
            deed = (alone,)
        elif name:
            deed = (name, int(lift))
        else:
            deed = ("come", first + sum(1 for deed in deeds if deed[0] == "come"), int(start), int(goal), bool(key))
        refusal = refusal_of(house, deed)
        if refusal:
            return refusal
        deeds.append(deed)
    return deeds


def expected_read_day(text, house):
    day = []
    for part in text.split(";"):
        deeds = expected_read(part, house, sum(1 for deeds in day for deed in deeds if deed[0] == "come"))
        if isinstance(deeds, tuple):
            return deeds
        day.append(deeds)
    return day


def where_in(state, tag):
    """Where a rider is in a state: the word and, aboard, the cabin's place; None where they are in no place."""
    if any(rider[0] == tag for rider in state[1]):
        return ("waits", None)
    places = [cabin[0] for cabin in state[0] if tag in dict(cabin[4])]
    return ("aboard", places[0]) if places else None


def expected_fate(house, deed, came, states):
    """What came of the rider of a coming, told by the states alone; states begin with the one behind the coming."""
    name, tag, start, goal, key = deed
    seen = [where_in(state, tag) for state in states]
    if seen[0] is None:
        barred = house[2] >> goal & 1 and key is False
        return (tag, came, "barred" if barred else "sent", came)
    if None in seen:
        gone = seen.index(None)
        word, place = seen[gone - 1]
        fate = "sent" if word == "waits" else "out" if place == 2 * goal else "below"
        return (tag, came, fate, came + gone)
    if seen[-1][0] == "waits":
        return (tag, came, "waits", came)
    return (tag, came, "aboard", came + [word for word, place in seen].index("aboard"))


def expected_fates(house, day, steps):
    told = []
    for number, deeds in enumerate(day):
        states = [state for state, log in steps[number:]]
        told += [expected_fate(house, deed, number, states) for deed in deeds if deed[0] == "come"]
    return told


def expected_waits(fates_told, turns):
    """Each turn from the coming on in which somebody is not yet out, of those that get out or may yet."""
    total = 0
    for tag, came, fate, at in fates_told:
        if fate in ("out", "waits", "aboard"):
            total += len(range(came, at if fate == "out" else turns))
    return total
