"""Dealing: which lifts serve, and the dealers, which tell the lift that a rider is dealt to."""

from liftcourt.errors import NoDeal
from liftcourt.words import number_of

NO_LIFT = -1
MOST_FIXED = 9


def is_serving(cabin):
    return cabin[3] == 0


def serving(cabins):
    return [lift for lift, cabin in enumerate(cabins) if is_serving(cabin)]


def serving_from(cabins, first):
    many = len(cabins)
    for step in range(many):
        lift = (first + step) % many
        if is_serving(cabins[lift]):
            return lift
    return NO_LIFT


def near(cabins, waiting, rider, last):
    place = 2 * rider[1]
    # Of several least ones min tells the first, and serving tells rising numbers.
    return (min(serving(cabins), key=lambda lift: abs(cabins[lift][0] - place), default=NO_LIFT), last)


def least(cabins, waiting, rider, last):
    dealt = [lift for tag, start, goal, lift in waiting]
    # As in near.
    fewest = min(serving(cabins), key=lambda lift: len(cabins[lift][4]) + dealt.count(lift), default=NO_LIFT)
    return (fewest, last)


def by_turns(cabins, waiting, rider, last):
    lift = serving_from(cabins, last + 1)
    return (lift, last if lift == NO_LIFT else lift)


def zone_of(lifts):
    return lambda cabins, waiting, rider, last: (serving_from(cabins, lifts[rider[1]]), last)


def fixed_of(lifts):
    return lambda cabins, waiting, rider, last: (serving_from(cabins, lifts[rider[0] % len(lifts)]), last)


def read_lifts(words, house):
    lifts = [number_of(word) for word in words]
    if any([lift is None or lift >= len(house[1]) for lift in lifts]):
        raise NoDeal("these are no lifts of the house")
    return lifts


def dealer_of(text, house):
    if text == "near":
        return near
    if text == "least":
        return least
    if text == "turns":
        return by_turns
    words = text.split(" ")
    lifts = words[1:]
    if words[0] == "zone" and len(lifts) == house[0]:
        return zone_of(read_lifts(lifts, house))
    if words[0] == "fixed" and 1 <= len(lifts) <= MOST_FIXED:
        return fixed_of(read_lifts(lifts, house))
    raise NoDeal(f"{text!r} is no dealer")
