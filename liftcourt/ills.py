"""Ills: states that should not be, read from texts, and the shortest way to one."""

from liftcourt.errors import NoIll
from liftcourt.graphs import graph_of, row_to
from liftcourt.houses import room_of
from liftcourt.words import number_of

ILLS_OF_A_LIFT = ("full", "idle", "away")


def fits_part(house, name, numbers):
    if None in numbers:
        return False
    if name == "crowd":
        return len(numbers) == 1
    if name in ILLS_OF_A_LIFT:
        return len(numbers) == 1 and numbers[0] < len(house[1])
    return name == "open" and len(numbers) == 2 and numbers[0] < len(house[1]) and numbers[1] < house[0]


def read_part(part, house):
    words = part.split(" ")
    numbers = [number_of(word) for word in words[1:]]
    if not fits_part(house, words[0], numbers):
        raise NoIll(f"{part!r} is no ill")
    return (words[0], numbers)


def is_idle(cabin):
    return cabin[0] % 2 == 0 and cabin[2] == 0 and cabin[1] == 0


def is_away(cabin, goal):
    ahead = 2 * goal - cabin[0]
    # With the light out the product is 0, so it leads nowhere.
    return ahead != 0 and ahead * cabin[1] <= 0


def holds(house, state, name, numbers):
    if name == "crowd":
        return len(state[1]) >= numbers[0]
    lift = numbers[0]
    cabin = state[0][lift]
    if name == "full":
        return len(cabin[4]) == room_of(house, lift)
    if name == "open":
        return cabin[2] > 0 and cabin[0] == 2 * numbers[1]
    if name == "idle":
        return is_idle(cabin) and lift in [rider[3] for rider in state[1]]
    return any([is_away(cabin, goal) for tag, goal in cabin[4]])


def ill_of(text, house):
    parts = [read_part(part, house) for part in text.split(" and ")]
    return lambda state: all([holds(house, state, name, numbers) for name, numbers in parts])


def way_to(court, kinds, ill, most):
    # The whole graph first: too many states are refused also where one of them is ill.
    graph = graph_of(court, kinds, most)
    for number, state in enumerate(graph[0]):
        if ill(state):
            return ("ill", row_to(graph[2], number))
    return ("safe", len(graph[0]))
