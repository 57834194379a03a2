"""Houses, states and deeds of many kinds, drawn by a told source, and a look whether a state is one of its house."""

KINDS = ("plain", "hasty", "slow")


def drawn_house(source, most_lifts=3):
    floors = source.randint(2, 8)
    lifts = tuple(
        (source.randrange(floors), source.randint(1, 6), source.randint(1, 4), source.choice(KINDS))
        for _ in range(source.randint(1, most_lifts))
    )
    locked = source.randrange(2 ** (floors - 1)) * 2 if source.random() < 0.5 else 0
    return (floors, lifts, locked, source.choice(("free", "way")))


def drawn_ride(source, floors):
    start = source.randrange(floors)
    return (start, source.choice([goal for goal in range(floors) if goal != start]))


def goals_ahead(sort, floors, place, light, fire):
    if sort == "free" or fire:
        return list(range(floors))
    return [goal for goal in range(floors) if light and (2 * goal - place) * light >= 0]


def drawn_cabin(source, house, number, fire, tags):
    floors, lifts, locked, sort = house
    start, room, turns, kind = lifts[number]
    place = 0 if source.random() < 0.2 else source.randint(0, 2 * floors - 2)
    light = source.choice((-1, 1)) if place % 2 else source.choice((-1, 0, 1))
    door = 0 if place % 2 else source.randint(0, turns)
    marks = source.choice((0, 0, 0, 0, 1, 2, 3))
    goals = goals_ahead(sort, floors, place, light, fire)
    many = source.randint(0, room) if goals else 0
    aboard = tuple((tags.pop(), source.choice(goals)) for _ in range(many))
    return (place, light, door, marks, aboard)


def drawn_state(source, house, fire=None):
    """Any state of the house, as point 19 tells."""
    fire = source.random() < 0.25 if fire is None else fire
    tags = source.sample(range(1000), 100)
    cabins = tuple(drawn_cabin(source, house, number, fire, tags) for number in range(len(house[1])))
    lifts = [-1] + [number for number, cabin in enumerate(cabins) if cabin[3] == 0]
    many = 0 if fire else source.randint(0, 8)
    waiting = tuple((tags.pop(), *drawn_ride(source, house[0]), source.choice(lifts)) for _ in range(many))
    return (cabins, waiting, source.randrange(len(cabins)), fire)


def drawn_deed(source, house, names, tag):
    name = source.choice(names)
    if name == "come":
        return ("come", tag, *drawn_ride(source, house[0]), source.random() < 0.3)
    return (name,) if name in ("fire", "calm") else (name, source.randrange(len(house[1])))


USUAL = ("come",) * 5 + ("block", "stick", "free", "free", "goods", "back", "back")
WILD = USUAL + ("fire", "calm", "calm")


def drawn_deeds(source, house, names, first, most=6):
    """Deeds of the house; those that come have the tags from first on."""
    return [drawn_deed(source, house, names, first + k) for k in range(source.randint(0, most))]


def tags_of(state):
    return [rider[0] for rider in state[1]] + [tag for cabin in state[0] for tag, goal in cabin[4]]


def faults_of_cabin(house, number, cabin, fire):
    floors, lifts, locked, sort = house
    start, room, turns, kind = lifts[number]
    place, light, door, marks, aboard = cabin
    if [type(part) for part in cabin] != [int, int, int, int, tuple]:
        yield "a cabin of other kinds"
    if not (0 <= place <= 2 * floors - 2 and light in (-1, 0, 1) and 0 <= marks <= 3 and 0 <= door <= turns):
        yield "a cabin beyond its bounds"
    if place % 2 and (light == 0 or door):
        yield "between floors with the light out or the door open"
    if len(aboard) > room:
        yield "more aboard than the room"
    if any(type(pair) is not tuple or [type(part) for part in pair] != [int, int] for pair in aboard):
        yield "pairs of other kinds"
    if sort == "way" and not fire and aboard:
        if light == 0 or any((2 * goal - place) * light < 0 for tag, goal in aboard):
            yield "the light doesn't lead to a goal aboard"


def faults_of_state(house, state):
    """What of a state is not as point 19 tells."""
    cabins, waiting, last, fire = state
    found = []
    if [type(part) for part in state] != [tuple, tuple, int, bool] or type(state) is not tuple:
        found.append("a state of other kinds")
    if len(cabins) != len(house[1]) or not 0 <= last < len(cabins):
        found.append("other lifts than the house's")
    for number, cabin in enumerate(cabins):
        found += faults_of_cabin(house, number, cabin, fire)
    for rider in waiting:
        if type(rider) is not tuple or [type(part) for part in rider] != [int] * 4:
            found.append("a rider of other kinds")
        if rider[3] != -1 and cabins[rider[3]][3] != 0:
            found.append("dealt to a lift with marks")
    if len(set(tags_of(state))) != len(tags_of(state)):
        found.append("a tag that is there twice")
    if fire and waiting:
        found.append("somebody waits in a fire")
    return found
