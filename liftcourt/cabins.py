"""Cabins: how one stands first, what it sees, how it does a word, and who steps out and in."""

from liftcourt.masks import above, below, has, highest, lowest, mask_of


def cabin_of(lift):
    return (2 * lift[0], 0, 0, 0, ())


def floor_of(cabin):
    return cabin[0] // 2


def goals_aboard(cabin):
    return [goal for tag, goal in cabin[4]]


def way_of(start, goal):
    return 1 if goal > start else -1


def tasks_of(room, cabin, riders):
    goals = goals_aboard(cabin)
    # A full cabin can take nobody in, so nobody who waits is a task of it.
    if len(goals) >= room:
        return mask_of(goals)
    return mask_of(goals + [start for tag, start, goal, lift in riders])


def goes_along(floor, light, riders):
    ways = [way_of(start, goal) for tag, start, goal, lift in riders if start == floor]
    return light in ways


def here_of(sort, cabin, tasks, riders):
    floor = floor_of(cabin)
    light = cabin[1]
    if not has(tasks, floor):
        return 0
    if sort == "free" or light == 0:
        return 2
    return 2 if floor in goals_aboard(cabin) or goes_along(floor, light, riders) else 1


def view(sort, room, cabin, riders):
    floor = floor_of(cabin)
    tasks = tasks_of(room, cabin, riders)
    next_up = lowest(above(tasks, floor))
    next_down = highest(below(tasks, floor))
    up = 0 if next_up is None else next_up - floor
    down = 0 if next_down is None else floor - next_down
    return (floor, cabin[1], here_of(sort, cabin, tasks, riders), up, down)


def turned(sort, cabin, word):
    goals = goals_aboard(cabin)
    light = cabin[1]
    if sort == "free" or len(goals) == 0:
        return word
    if floor_of(cabin) in goals or word == "x":
        return "o"
    if (word == "u" and light == -1) or (word == "d" and light == 1):
        return "s"
    return word


def bounded(floors, cabin, word):
    if word == "u" and floor_of(cabin) == floors - 1:
        return "s"
    if word == "d" and floor_of(cabin) == 0:
        return "s"
    return word


def with_changes(cabin, place, light, door):
    return (place, light, door, cabin[3], cabin[4])


def steered(sort, floors, turns, cabin, word):
    place = cabin[0]
    light = cabin[1]
    door = cabin[2]
    # A word that is turned may still lead out of the house, so the ends are looked at last.
    done = bounded(floors, cabin, turned(sort, cabin, word))
    if done == "o":
        return with_changes(cabin, place, light, turns)
    if done == "x":
        return with_changes(cabin, place, 0, turns)
    if done == "u":
        return with_changes(cabin, place + 1, 1, door)
    if done == "d":
        return with_changes(cabin, place - 1, -1, door)
    return with_changes(cabin, place, light if len(cabin[4]) > 0 else 0, door)


def may_step_in(sort, light, start, goal):
    return sort == "free" or light == 0 or way_of(start, goal) == light


def exchanged(sort, room, cabin, riders):
    floor = floor_of(cabin)
    light = cabin[1]
    outs = [tag for tag, goal in cabin[4] if goal == floor]
    ins = []
    aboard = [(tag, goal) for tag, goal in cabin[4] if goal != floor]
    for tag, start, goal, lift in riders:
        if start == floor and len(aboard) < room and may_step_in(sort, light, start, goal):
            ins.append(tag)
            aboard.append((tag, goal))
            # Who steps in first settles the way for all behind them.
            light = way_of(start, goal) if sort == "way" else light
    return ((cabin[0], light, cabin[2], cabin[3], tuple(aboard)), outs, ins)
