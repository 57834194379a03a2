"""Looks: whether anybody's ranks, or a path and a cycle, are good for a kind of a small house."""

from liftcourt.graphs import choices, led, present


def fits_state(court, kinds, kind, ranks, state):
    rank = ranks[state]
    if rank < 0 or (rank == 0) == present(state, kind):
        return False
    for choice in choices(state, kinds):
        behind = led(court, kinds, state, choice)
        if behind not in ranks:
            return False
        if rank > 0 and ranks[behind] >= rank:
            return False
    return True


def is_rank(court, kinds, kind, rows):
    ranks = dict(rows)
    # A dict keeps each state once, so it is shorter than the list where one is there twice.
    if len(ranks) != len(rows) or court.begin() not in ranks:
        return False
    return all([fits_state(court, kinds, kind, ranks, state) for state in ranks])


def states_along(court, kinds, state, row):
    states = [state]
    for choice in row:
        if choice not in choices(states[-1], kinds):
            return None
        states.append(led(court, kinds, states[-1], choice))
    return states


def is_cycle(court, kinds, kind, path, cycle):
    ahead = states_along(court, kinds, court.begin(), path)
    if ahead is None or len(cycle) == 0:
        return False
    kept = states_along(court, kinds, ahead[-1], cycle)
    if kept is None or kept[-1] != kept[0]:
        return False
    return all([present(state, kind) for state in kept])
