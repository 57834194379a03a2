"""Houses: made of their four parts, written as texts, and read from them."""

from liftcourt.errors import NoHouse
from liftcourt.masks import bit, has, listed, mask_of
from liftcourt.words import number_of

LEAST_FLOORS = 2
MOST_FLOORS = 8
MOST_LIFTS = 3
MOST_ROOM = 6
MOST_TURNS = 4
DOOR_KINDS = ("plain", "hasty", "slow")
SORTS = ("free", "way")


def fits_lift(floors, start, room, turns, kind):
    if not 0 <= start < floors:
        return False
    return 1 <= room <= MOST_ROOM and 1 <= turns <= MOST_TURNS and kind in DOOR_KINDS


def fits_lifts(floors, lifts):
    if not 1 <= len(lifts) <= MOST_LIFTS:
        return False
    return all([fits_lift(floors, start, room, turns, kind) for start, room, turns, kind in lifts])


def fits_locked(floors, locked):
    return 0 <= locked < bit(floors) and not has(locked, 0)


def made_house(floors, lifts, locked, sort):
    if not LEAST_FLOORS <= floors <= MOST_FLOORS:
        raise NoHouse("a house has 2 to 8 floors")
    if not fits_lifts(floors, lifts):
        raise NoHouse("these are no lifts of the house")
    if not fits_locked(floors, locked):
        raise NoHouse("these are no floors that can be locked")
    if sort not in SORTS:
        raise NoHouse(f"{sort!r} is no sort of a house")
    return (floors, tuple(lifts), locked, sort)


def room_of(house, lift):
    return house[1][lift][1]


def turns_of(house, lift):
    return house[1][lift][2]


def kind_of(house, lift):
    return house[1][lift][3]


def shown_house(house):
    words = [str(house[0]), house[3]] + [str(floor) for floor in listed(house[2])]
    lifts = [f"{start} {room} {turns} {kind}" for start, room, turns, kind in house[1]]
    return "; ".join([" ".join(words)] + lifts)


def read_number(word):
    number = number_of(word)
    if number is None:
        raise NoHouse(f"{word!r} is no number")
    return number


def read_locked(words):
    floors = [read_number(word) for word in words]
    # Ahead of the mask, which would be huge of a great number.
    if any([floor >= MOST_FLOORS for floor in floors]):
        raise NoHouse("a locked floor is no floor of the house")
    locked = mask_of(floors)
    if listed(locked) != floors:
        raise NoHouse("the locked floors don't rise")
    return locked


def read_lift(part):
    words = part.split(" ")
    if len(words) != 4:
        raise NoHouse(f"{part!r} is no lift")
    return (read_number(words[0]), read_number(words[1]), read_number(words[2]), words[3])


def read_house(text):
    parts = text.split("; ")
    words = parts[0].split(" ")
    if len(words) < 2:
        raise NoHouse("the floors or the sort are not told")
    lifts = [read_lift(part) for part in parts[1:]]
    return made_house(read_number(words[0]), lifts, read_locked(words[2:]), words[1])
