"""A look whether a turn is safe, as point 23 tells."""

from chances import faults_of_state, tags_of

GONE = ("barred", "sent", "out")


def stuck_behind(state, deeds, lift):
    """Whether the lift is stuck behind the deeds of the turn."""
    stuck = state[0][lift][3] % 2 == 1
    for deed in deeds:
        stuck = {("stick", lift): True, ("free", lift): False}.get(deed, stuck)
    return stuck


def faults_of_cabins(court, state, deeds, behind):
    for lift, (before, after) in enumerate(zip(state[0], behind[0])):
        if after[2] > 0 and after[0] % 2:
            yield "a door stands open between two floors"
        if before[0] != after[0] and (before[2] or after[2]):
            yield "a cabin changes its place, its door open ahead or behind"
        if abs(before[0] - after[0]) > 1:
            yield "a cabin changes its place by more than half a floor"
        if len(after[4]) > court.house[1][lift][1]:
            yield "a cabin holds more than its room"
        if before[2] > 0 and ("block", lift) in deeds and after[2] == 0:
            yield "a door that was open and blocked is shut"
        if stuck_behind(state, deeds, lift) and (before[:3], before[4]) != (after[:3], after[4]):
            yield "a stuck lift's cabin is changed"
        goals = dict(before[4])
        for tag, goal in after[4]:
            farther = tag in goals and abs(after[0] - 2 * goal) > abs(before[0] - 2 * goal)
            if court.house[3] == "way" and not behind[3] and farther:
                yield "somebody aboard gets farther from the goal"


def goals_in(state, deeds):
    goals = {tag: goal for tag, start, goal, lift in state[1]}
    goals.update(pair for told in state[0] for pair in told[4])
    goals.update((deed[1], deed[3]) for deed in deeds if deed[0] == "come")
    return goals


def faults_of_riders(state, deeds, behind, log):
    goals = goals_in(state, deeds)
    gone = [entry[1] for entry in log if entry[0] in GONE]
    if sorted(tags_of(behind) + gone) != sorted(goals):
        yield "a rider is not at just one place"
    if {tag: goal for tag, goal in goals_in(behind, []).items() if goals.get(tag) != goal}:
        yield "a rider's goal is another one"
    aboard = {tag: lift for lift, told in enumerate(state[0]) for tag, goal in told[4]}
    aboard.update({entry[1]: entry[2] for entry in log if entry[0] == "in"})
    for entry in log:
        if entry[0] == "out":
            elsewhere = not behind[3] and goals.get(entry[1]) != entry[3]
            if elsewhere or aboard.pop(entry[1], None) != entry[2]:
                yield "a rider steps out of another lift, or elsewhere than at the goal"
    if aboard != {tag: lift for lift, told in enumerate(behind[0]) for tag, goal in told[4]}:
        yield "a rider is aboard who never stepped in, or stepped out unseen"


def faults_of_turn(court, state, deeds, behind, log):
    found = faults_of_state(court.house, behind)
    found += faults_of_cabins(court, state, deeds, behind)
    return found + list(faults_of_riders(state, deeds, behind, log))
