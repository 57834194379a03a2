"""Points 26 to 31 once more, told from the document's words and by the turns as restated; and rows played."""

import re

from restated import expected_turn

NUMBER = "(0|[1-9][0-9]{0,8})"


def kind_in(state, kind):
    waits = [tag for tag, start, goal, lift in state[1]]
    return kind in waits or any(kind in dict(aboard) for place, light, door, marks, aboard in state[0])


def expected_choices(state, kinds):
    return [choice for choice in range(-1, len(kinds)) if choice == -1 or not kind_in(state, choice)]


def expected_led(court, kinds, state, choice):
    deeds = [("come", choice, *kinds[choice], False)] if choice >= 0 else []
    return expected_turn(court.house, court.rule, court.dealer, state, deeds)[0]


def played(court, kinds, row):
    """The states of a row of choices from the first state on, that one first; None where one is no choice."""
    states = [court.begin()]
    for choice in row:
        if choice not in expected_choices(states[-1], kinds):
            return None
        states.append(expected_led(court, kinds, states[-1], choice))
    return states


def expected_graph(court, kinds):
    """The states in layers: those of one more choice each time, in the order of the layer ahead."""
    first = court.begin()
    found = {first: None}
    layer = [first]
    ways = {}
    while layer:
        nearer, layer = layer, []
        for state in nearer:
            ways[state] = [(choice, expected_led(court, kinds, state, choice))
                           for choice in expected_choices(state, kinds)]
            for choice, behind in ways[state]:
                if behind not in found:
                    found[behind] = (state, choice)
                    layer.append(behind)
    states = list(found)
    firsts = [by and (states.index(by[0]), by[1]) for by in found.values()]
    number = {state: place for place, state in enumerate(states)}
    return (states, [[(choice, number[behind]) for choice, behind in ways[state]] for state in states], firsts)


def expected_ranks(graph, kind):
    """By layers: those from which a row of n - 1 choices leads through states with the kind, for n = 1, 2 and so on.

    Where there are as many states as choices in such a row, one of them is met twice, and no row is the longest."""
    states, ways, firsts = graph
    inside = {number for number, state in enumerate(states) if kind_in(state, kind)}
    ranks = [0] * len(states)
    layer = inside
    for n in range(1, len(inside) + 1):
        for number in layer:
            ranks[number] = n
        layer = {number for number in inside if any(goal in layer for choice, goal in ways[number])}
    for number in layer:
        ranks[number] = None
    return ranks


def part_holds(house, name, numbers, state):
    cabins, waiting, last, fire = state
    if name == "crowd":
        return not len(waiting) < numbers[0]
    place, light, door, marks, aboard = cabins[numbers[0]]
    if name == "full":
        return house[1][numbers[0]][1] == len(aboard)
    if name == "open":
        return door != 0 and place / 2 == numbers[1]
    if name == "idle":
        return (place % 2, light, door) == (0, 0, 0) and any(rider[3] == numbers[0] for rider in waiting)
    led_to = {1: lambda goal: 2 * goal > place, -1: lambda goal: 2 * goal < place, 0: lambda goal: False}[light]
    return not all(2 * goal == place or led_to(goal) for tag, goal in aboard)


def expected_parts(text, house):
    """The parts of an ill's text, each a name and numbers; None where the text writes no ill."""
    parts = []
    for part in text.split(" and "):
        found = re.fullmatch(f"(crowd|full|idle|away) {NUMBER}|(open) {NUMBER} {NUMBER}", part)
        if not found:
            return None
        name, *numbers = [word for word in found.groups() if word is not None]
        numbers = [int(word) for word in numbers]
        if name != "crowd" and numbers[0] not in range(len(house[1])):
            return None
        if name == "open" and numbers[1] not in range(house[0]):
            return None
        parts.append((name, numbers))
    return parts


def expected_ill(text, house):
    parts = expected_parts(text, house)
    return lambda state: all(part_holds(house, name, numbers, state) for name, numbers in parts)
