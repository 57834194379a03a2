"""Points 35 and 36 once more, told from the document's words and by the turns as restated."""

import itertools

from restated import expected_deal, expected_turn
from restated_days import expected_fates, expected_waits


def first_state(house):
    cabins = tuple((2 * start, 0, 0, 0, ()) for start, room, turns, kind in house[1])
    return (cabins, (), len(cabins) - 1, False)


def waits_by(house, rule, riders, text, turns):
    """The waits in all of a row of riders with the dealer of a text."""
    def dealer(cabins, waiting, rider, last):
        return expected_deal(text, cabins, waiting, rider, last)

    day = [[] for _ in range(turns)]
    for tag, (came, start, goal) in enumerate(riders):
        day[came].append(("come", tag, start, goal, False))
    state, steps = first_state(house), []
    for deeds in day:
        steps.append(expected_turn(house, rule, dealer, state, deeds))
        state = steps[-1][0]
    return expected_waits(expected_fates(house, day, steps), turns)


def fixed_text(dealing):
    return " ".join(["fixed", *map(str, dealing)])


def all_dealings(house, riders):
    return list(itertools.product(range(len(house[1])), repeat=len(riders)))


def all_waits(house, rule, riders, turns):
    return {dealing: waits_by(house, rule, riders, fixed_text(dealing), turns)
            for dealing in all_dealings(house, riders)}
