"""The points on cabins, dealing and turns once more, told from the document's words and not by the program."""


def expected_view(sort, room, told, riders):
    place, light, door, marks, aboard = told
    floor = place // 2
    goals = {goal for tag, goal in aboard}
    tasks = goals | ({rider[1] for rider in riders} if len(aboard) < room else set())
    stops = sort == "free" or floor in goals or not light
    stops = stops or any(r[1] == floor and (r[2] > r[1]) == (light == 1) for r in riders)
    here = (2 if stops else 1) if floor in tasks else 0
    ups = [task - floor for task in tasks if task > floor]
    downs = [floor - task for task in tasks if task < floor]
    return (floor, light, here, min(ups, default=0), min(downs, default=0))


def expected_steered(sort, floors, turns, told, word):
    place, light, door, marks, aboard = told
    goals = [goal for tag, goal in aboard]
    if sort == "way" and place // 2 in goals:
        word = "o"
    elif sort == "way" and goals:
        word = {("x", 1): "o", ("x", 0): "o", ("x", -1): "o", ("u", -1): "s", ("d", 1): "s"}.get((word, light), word)
    if (word, place) in (("u", 2 * floors - 2), ("d", 0)):
        word = "s"
    change = {
        "o": (place, light, turns), "x": (place, 0, turns), "u": (place + 1, 1, 0), "d": (place - 1, -1, 0),
        "s": (place, light if goals else 0, 0),
    }[word]
    return change + (marks, aboard)


def expected_exchange(sort, room, told, riders):
    place, light, door, marks, aboard = told
    outs = [pair for pair in aboard if 2 * pair[1] == place]
    stay = [pair for pair in aboard if pair not in outs]
    ins = []
    for tag, start, goal, lift in riders:
        way = 1 if goal > start else -1
        if 2 * start == place and len(stay) + len(ins) < room and (sort == "free" or light in (0, way)):
            ins.append((tag, goal))
            if sort == "way":
                light = way
    behind = (place, light, door, marks, tuple(stay + ins))
    return (behind, [tag for tag, goal in outs], [tag for tag, goal in ins])


def expected_serving(cabins):
    return [number for number in range(len(cabins)) if cabins[number][3] == 0]


def expected_deal(text, cabins, waiting, rider, last):
    """What the dealer of a text tells (17)."""
    lifts = expected_serving(cabins)
    name, *numbers = text.split()
    if not lifts:
        return (-1, last)
    if name == "near":
        return (min((abs(cabins[lift][0] - 2 * rider[1]), lift) for lift in lifts)[1], last)
    if name == "least":
        many = [len(cabin[4]) + sum(1 for other in waiting if other[3] == lift) for lift, cabin in enumerate(cabins)]
        return (min((many[lift], lift) for lift in lifts)[1], last)
    # Behind a lift are those of a greater number, and behind these those of a lesser one, rising.
    if name == "turns":
        lift = sorted(lifts, key=lambda lift: (lift <= last, lift))[0]
        return (lift, lift)
    wished = int(numbers[rider[1] if name == "zone" else rider[0] % len(numbers)])
    return (sorted(lifts, key=lambda lift: (lift < wished, lift))[0], last)


class Retold:
    """A turn (20 to 22), deed by deed and lift by lift; the deeds are such as are not refused."""

    def __init__(self, house, state):
        self.floors, self.lifts, self.locked, self.sort = house
        self.cabins = [list(cabin) for cabin in state[0]]
        self.waiting = {tag: [start, goal, lift] for tag, start, goal, lift in state[1]}
        self.last, self.fire = state[2:]
        self.blocked = set()
        self.log = []

    def riders(self):
        return tuple((tag, *rest) for tag, rest in self.waiting.items())

    def state(self):
        return (tuple(tuple(cabin) for cabin in self.cabins), self.riders(), self.last, self.fire)

    def come(self, tag, start, goal, key):
        if self.locked >> goal & 1 and key is False:
            self.log.append(("barred", tag))
        elif self.fire:
            self.log.append(("sent", tag))
        else:
            self.waiting[tag] = [start, goal, -1]

    def block(self, lift):
        self.blocked.add(lift)

    def taken_out(self, lift, mark):
        self.cabins[lift][3] |= mark
        for rest in self.waiting.values():
            if rest[2] == lift:
                rest[2] = -1

    def stick(self, lift):
        self.taken_out(lift, 1)

    def goods(self, lift):
        self.taken_out(lift, 2)

    def free(self, lift):
        self.cabins[lift][3] &= 2

    def back(self, lift):
        self.cabins[lift][3] &= 1

    def start_fire(self):
        if not self.fire:
            self.log += [("sent", tag) for tag in self.waiting]
            self.waiting = {}
            self.fire = True

    def calm(self):
        if self.fire and all(place == 0 and door and not aboard for place, _, door, _, aboard in self.cabins):
            self.fire = False

    def deal(self, dealer):
        for tag, rest in self.waiting.items():
            if rest[2] == -1:
                cabins = self.state()[0]
                lift, self.last = dealer(cabins, self.riders(), (tag, *rest), self.last)
                if lift != -1:
                    rest[2] = lift
                    self.log.append(("deal", tag, lift))

    def go_in_fire(self, number):
        cabin = self.cabins[number]
        place, light, door, marks, aboard = cabin
        turns = self.lifts[number][2]
        if door and place == 0:
            self.log += [("out", tag, number, 0) for tag, goal in aboard]
            cabin[:] = 0, 0, turns, marks, ()
        elif door:
            cabin[2] = door if number in self.blocked else 0
        elif place == 0:
            cabin[1:3] = 0, turns
        else:
            cabin[:2] = place - 1, -1

    def go(self, number, rule):
        start, room, turns, kind = self.lifts[number]
        cabin = tuple(self.cabins[number])
        riders = [rider for rider in self.riders() if rider[3] == number]
        if cabin[2]:
            behind, outs, ins = expected_exchange(self.sort, room, cabin, riders)
            self.log += [("out", tag, number, cabin[0] // 2) for tag in outs]
            self.log += [("in", tag, number, cabin[0] // 2) for tag in ins]
            self.waiting = {tag: rest for tag, rest in self.waiting.items() if tag not in ins}
            count = expected_count(kind, turns, cabin[2], number in self.blocked, bool(outs or ins))
            self.cabins[number] = [*behind[:2], count, *behind[3:]]
        elif cabin[0] % 2:
            self.cabins[number][0] += cabin[1]
        else:
            word = rule.word(expected_view(self.sort, room, cabin, riders))
            self.cabins[number] = list(expected_steered(self.sort, self.floors, turns, cabin, word))


def expected_count(kind, turns, count, blocked, stepped):
    if blocked:
        return count if kind == "hasty" else turns
    return turns if kind == "slow" and stepped else count - 1


def expected_turn(house, rule, dealer, state, deeds):
    """The state and the log behind a turn (20 to 22), of deeds that are not refused."""
    retold = Retold(house, state)
    for name, *rest in deeds:
        getattr(retold, "start_fire" if name == "fire" else name)(*rest)
    if not retold.fire:
        retold.deal(dealer)
    for number in range(len(retold.cabins)):
        if retold.cabins[number][3] in (0, 2):
            if retold.fire:
                retold.go_in_fire(number)
            else:
                retold.go(number, rule)
    return (retold.state(), retold.log)
