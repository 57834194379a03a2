"""Courts: the first state of a house, and the turns that lead from one state to another."""

from liftcourt.cabins import cabin_of, exchanged, floor_of, steered, view, with_changes
from liftcourt.dealing import NO_LIFT
from liftcourt.deeds import need_deed
from liftcourt.doors import door_of
from liftcourt.errors import Twice
from liftcourt.houses import kind_of, room_of, turns_of
from liftcourt.masks import has, with_bit, without

STUCK = 0
TAKEN = 1


# A turn changes one of these step by step, so that the state handed in stays, also where a dealer or a rule fails.
class Moment:
    def __init__(self, house, state):
        self.house = house
        self.cabins = list(state[0])
        self.waiting = list(state[1])
        self.last = state[2]
        self.fire = state[3]
        self.blocked = 0
        self.log = []


def state_of(moment):
    return (tuple(moment.cabins), tuple(moment.waiting), moment.last, moment.fire)


def tags_in(state):
    tags = [tag for tag, start, goal, lift in state[1]]
    for place, light, door, marks, aboard in state[0]:
        tags.extend([tag for tag, goal in aboard])
    return tags


def need_deeds(house, state, deeds):
    taken = dict([(tag, True) for tag in tags_in(state)])
    for deed in deeds:
        need_deed(house, deed)
        if deed[0] == "come":
            if deed[1] in taken:
                raise Twice(deed[1])
            taken[deed[1]] = True


def do_come(moment, tag, start, goal, key):
    if has(moment.house[2], goal) and not key:
        moment.log.append(("barred", tag))
    elif moment.fire:
        moment.log.append(("sent", tag))
    else:
        moment.waiting.append((tag, start, goal, NO_LIFT))


def dealt_to(rider, lift):
    return (rider[0], rider[1], rider[2], lift)


def with_marks(cabin, marks):
    return (cabin[0], cabin[1], cabin[2], marks, cabin[4])


def put_mark(moment, lift, mark):
    cabin = moment.cabins[lift]
    moment.cabins[lift] = with_marks(cabin, with_bit(cabin[3], mark))
    moment.waiting = [dealt_to(rider, NO_LIFT) if rider[3] == lift else rider for rider in moment.waiting]


def lose_mark(moment, lift, mark):
    cabin = moment.cabins[lift]
    moment.cabins[lift] = with_marks(cabin, without(cabin[3], mark))


def do_fire(moment):
    # In a fire nobody waits, so nobody is sent again.
    moment.fire = True
    moment.log.extend([("sent", tag) for tag, start, goal, lift in moment.waiting])
    moment.waiting = []


def is_left(cabin):
    return cabin[0] == 0 and cabin[2] > 0 and len(cabin[4]) == 0


def do_calm(moment):
    if all([is_left(cabin) for cabin in moment.cabins]):
        moment.fire = False


def do_deed(moment, deed):
    name = deed[0]
    if name == "come":
        do_come(moment, deed[1], deed[2], deed[3], deed[4])
    elif name == "block":
        moment.blocked = with_bit(moment.blocked, deed[1])
    elif name == "stick":
        put_mark(moment, deed[1], STUCK)
    elif name == "goods":
        put_mark(moment, deed[1], TAKEN)
    elif name == "free":
        lose_mark(moment, deed[1], STUCK)
    elif name == "back":
        lose_mark(moment, deed[1], TAKEN)
    elif name == "fire":
        do_fire(moment)
    else:
        do_calm(moment)


def deal(moment, dealer, place, rider):
    # Tuples, so that a dealer of the asker's own can neither change the court nor see it change later.
    told = dealer(tuple(moment.cabins), tuple(moment.waiting), rider, moment.last)
    moment.last = told[1]
    if told[0] != NO_LIFT:
        moment.waiting[place] = dealt_to(rider, told[0])
        moment.log.append(("deal", rider[0], told[0]))


def deal_all(moment, dealer):
    for place, rider in enumerate(list(moment.waiting)):
        if rider[3] == NO_LIFT:
            deal(moment, dealer, place, rider)


def log_steps(moment, word, tags, lift):
    floor = floor_of(moment.cabins[lift])
    moment.log.extend([(word, tag, lift, floor) for tag in tags])


def open_below(moment, lift):
    cabin = moment.cabins[lift]
    outs = cabin[4] if cabin[2] > 0 else ()
    log_steps(moment, "out", [tag for tag, goal in outs], lift)
    moment.cabins[lift] = (0, 0, turns_of(moment.house, lift), cabin[3], cabin[4][len(outs):])


def go_in_fire(moment, lift):
    cabin = moment.cabins[lift]
    if cabin[0] == 0:
        open_below(moment, lift)
    elif cabin[2] > 0:
        count = cabin[2] if has(moment.blocked, lift) else 0
        moment.cabins[lift] = with_changes(cabin, cabin[0], cabin[1], count)
    else:
        moment.cabins[lift] = with_changes(cabin, cabin[0] - 1, -1, 0)


def exchange(moment, lift, riders):
    house = moment.house
    told = exchanged(house[3], room_of(house, lift), moment.cabins[lift], riders)
    cabin = told[0]
    outs = told[1]
    ins = told[2]
    log_steps(moment, "out", outs, lift)
    log_steps(moment, "in", ins, lift)
    door = door_of(kind_of(house, lift), turns_of(house, lift))
    count = door.left(cabin[2], has(moment.blocked, lift), len(outs) + len(ins) > 0)
    moment.cabins[lift] = with_changes(cabin, cabin[0], cabin[1], count)
    moment.waiting = [rider for rider in moment.waiting if rider[0] not in ins]


def go_by_rule(moment, rule, lift, riders):
    house = moment.house
    cabin = moment.cabins[lift]
    word = rule.word(view(house[3], room_of(house, lift), cabin, riders))
    moment.cabins[lift] = steered(house[3], house[0], turns_of(house, lift), cabin, word)


def go_without_fire(moment, rule, lift):
    cabin = moment.cabins[lift]
    riders = [rider for rider in moment.waiting if rider[3] == lift]
    if cabin[2] > 0:
        exchange(moment, lift, riders)
    elif cabin[0] % 2 == 1:
        moment.cabins[lift] = with_changes(cabin, cabin[0] + cabin[1], cabin[1], 0)
    else:
        go_by_rule(moment, rule, lift, riders)


def go(moment, rule, lift):
    if has(moment.cabins[lift][3], STUCK):
        return
    if moment.fire:
        go_in_fire(moment, lift)
    else:
        go_without_fire(moment, rule, lift)


class Court:
    def __init__(self, house, rule, dealer):
        self.house = house
        self.rule = rule
        self.dealer = dealer

    def begin(self):
        cabins = tuple([cabin_of(lift) for lift in self.house[1]])
        return (cabins, (), len(cabins) - 1, False)

    def turn(self, state, deeds):
        need_deeds(self.house, state, deeds)
        moment = Moment(self.house, state)
        for deed in deeds:
            do_deed(moment, deed)
        if not moment.fire:
            deal_all(moment, self.dealer)
        for lift in range(len(self.house[1])):
            go(moment, self.rule, lift)
        return (state_of(moment), moment.log)
