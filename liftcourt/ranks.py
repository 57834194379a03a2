"""Ranks: how long a rider of a kind can still wait in each state, and the longest wait of all."""

from liftcourt.graphs import graph_of, present, row_to


def comers_of(ways):
    comers = [[] for leads in ways]
    for number, leads in enumerate(ways):
        for choice, goal in leads:
            comers[goal].append(number)
    return comers


def ranks_of(graph, kind):
    ways = graph[1]
    ranks = [None if present(state, kind) else 0 for state in graph[0]]
    comers = comers_of(ways)
    unsettled = [len(leads) for leads in ways]
    settled = [number for number, rank in enumerate(ranks) if rank == 0]
    done = 0
    # A state is settled once all that it leads to is; one from which a rider can be kept for ever never is.
    while done < len(settled):
        behind = settled[done]
        for number in comers[behind]:
            unsettled[number] -= 1
            if unsettled[number] == 0 and ranks[number] is None:
                ranks[number] = 1 + max([ranks[goal] for choice, goal in ways[number]])
                settled.append(number)
        done += 1
    return ranks


def way_with(leads, ranks, rank):
    return [way for way in leads if ranks[way[1]] == rank][0]


def row_of_most(graph, ranks, most):
    number = ranks.index(most)
    # What leads to a state of the greatest rank has the kind not in it, so the rider comes in the last turn of this
    # row. Where the greatest rank is 0, this is the first state, and the row stays empty.
    row = row_to(graph[2], number)
    for rank in range(most - 1, -1, -1):
        way = way_with(graph[1][number], ranks, rank)
        row.append(way[0])
        number = way[1]
    return row


def path_and_cycle(graph, ranks):
    number = ranks.index(None)
    row = []
    met = {}
    # A state of no rank always leads to another such state, so the walk comes back to one that it met.
    while number not in met:
        met[number] = len(row)
        way = way_with(graph[1][number], ranks, None)
        row.append(way[0])
        number = way[1]
    return (row_to(graph[2], number), row[met[number]:])


def longest(court, kinds, kind, most):
    graph = graph_of(court, kinds, most)
    ranks = ranks_of(graph, kind)
    if None in ranks:
        told = path_and_cycle(graph, ranks)
        return ("never", told[0], told[1])
    greatest = max(ranks)
    return ("most", greatest, row_of_most(graph, ranks, greatest))
