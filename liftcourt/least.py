"""Least waits: the waits of a row of riders under a dealing, the least of all, and what dealers lack."""

from liftcourt.courts import Court
from liftcourt.days import fates, run, waits_of
from liftcourt.dealing import dealer_of, fixed_of
from liftcourt.deeds import need_ride
from liftcourt.masks import bit, has, mask_of


def need_riders(house, riders):
    for came, start, goal in riders:
        need_ride(house, start, goal)


def comings_at(riders, turn):
    return [("come", tag, rider[1], rider[2], False) for tag, rider in enumerate(riders) if rider[0] == turn]


def waits_under(house, rule, dealer, riders, turns):
    court = Court(house, rule, dealer)
    day = [comings_at(riders, turn) for turn in range(turns)]
    return waits_of(fates(day, run(court, court.begin(), day)), turns)


def dealt(house, rule, riders, dealing, turns):
    need_riders(house, riders)
    return waits_under(house, rule, fixed_of(dealing), riders, turns)


def riders_in(riders, mask):
    return [rider for place, rider in enumerate(riders) if has(mask, place)]


# Lifts don't meet: what one does hangs on the riders dealt to it alone. So each group of riders is run once with each
# lift, and the waits in all of any dealing are a sum of these.
def waits_of_groups(house, rule, riders, turns, lift):
    alone = (house[0], (house[1][lift],), house[2], house[3])
    groups = [riders_in(riders, mask) for mask in range(bit(len(riders)))]
    return [waits_under(alone, rule, fixed_of([0]), group, turns) for group in groups]


def mask_of_lift(dealing, lift):
    return mask_of([place for place, other in enumerate(dealing) if other == lift])


def total_of(waits, dealing):
    return sum([waits[lift][mask_of_lift(dealing, lift)] for lift in range(len(waits))])


def bound_of(waits, many, front):
    if len(front) == many:
        return total_of(waits, front)
    return min([bound_of(waits, many, front + (lift,)) for lift in range(len(waits))])


def least_of(house, rule, riders, turns):
    need_riders(house, riders)
    lifts = len(house[1])
    waits = [waits_of_groups(house, rule, riders, turns, lift) for lift in range(lifts)]
    dealing = ()
    cuts = []
    # Each step keeps a front of the least bound and cuts the others off, so the bound of what is kept stays the least.
    while len(dealing) < len(riders):
        bounds = [bound_of(waits, len(riders), dealing + (lift,)) for lift in range(lifts)]
        kept = bounds.index(min(bounds))
        cuts.extend([(dealing + (lift,), bound) for lift, bound in enumerate(bounds) if lift != kept])
        dealing = dealing + (kept,)
    return (total_of(waits, dealing), dealing, cuts)


def lacks(house, rule, riders, turns, texts):
    dealers = [dealer_of(text, house) for text in texts]
    total = least_of(house, rule, riders, turns)[0]
    return [waits_under(house, rule, dealer, riders, turns) - total for dealer in dealers]
