"""Graphs: all states of a small house, and the rows of choices that lead to them."""

from liftcourt.courts import tags_in
from liftcourt.deeds import need_ride
from liftcourt.errors import TooMany

NOBODY = -1


def present(state, kind):
    return kind in tags_in(state)


def choices(state, kinds):
    return [NOBODY] + [kind for kind in range(len(kinds)) if not present(state, kind)]


def led(court, kinds, state, choice):
    deeds = [] if choice == NOBODY else [("come", choice, kinds[choice][0], kinds[choice][1], False)]
    return court.turn(state, deeds)[0]


def need_kinds(house, kinds):
    for start, goal in kinds:
        need_ride(house, start, goal)


def put_state(graph, numbers, state, first, most):
    number = len(graph[0])
    if number >= most:
        raise TooMany(most)
    numbers[state] = number
    graph[0].append(state)
    graph[1].append([])
    graph[2].append(first)


def graph_of(court, kinds, most):
    need_kinds(court.house, kinds)
    graph = ([], [], [])
    numbers = {}
    put_state(graph, numbers, court.begin(), None, most)
    number = 0
    while number < len(graph[0]):
        state = graph[0][number]
        for choice in choices(state, kinds):
            behind = led(court, kinds, state, choice)
            if behind not in numbers:
                put_state(graph, numbers, behind, (number, choice), most)
            graph[1][number].append((choice, numbers[behind]))
        number += 1
    return graph


def row_to(firsts, number):
    row = []
    first = firsts[number]
    while first is not None:
        row.append(first[1])
        first = firsts[first[0]]
    return list(reversed(row))
