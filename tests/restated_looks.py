"""Points 32 and 33 once more, told from the document's words and by the turns as restated."""

from restated_graphs import expected_choices, expected_led, kind_in, played


def faults_of_rank(court, kinds, kind, state, rank, rows):
    if rank < 0:
        yield "a rank below 0"
    if rank == 0 and kind_in(state, kind):
        yield "rank 0 with the kind"
    if rank != 0 and not kind_in(state, kind):
        yield "another rank without the kind"
    for choice in expected_choices(state, kinds):
        behind = expected_led(court, kinds, state, choice)
        found = [other for there, other in rows if there == behind]
        if not found:
            yield "a choice leads out"
        if rank > 0 and any(other >= rank for other in found):
            yield "a choice leads not lower"


def faults_of_ranks(court, kinds, kind, rows):
    """Each thing that point 32 asks and that the list doesn't keep to."""
    states = [state for state, rank in rows]
    faults = set()
    if court.begin() not in states:
        faults.add("the first state is missing")
    if any(states.count(state) > 1 for state in states):
        faults.add("a state is there twice")
    for state, rank in rows:
        faults.update(faults_of_rank(court, kinds, kind, state, rank, rows))
    return faults


def faults_of_cycle(court, kinds, kind, path, cycle):
    """Each thing that point 33 asks and that the path and the cycle don't keep to."""
    states = played(court, kinds, path)
    if states is None:
        return {"no choice in the path"}
    faults = set()
    if not kind_in(states[-1], kind):
        faults.add("the kind is not behind the path")
    if not cycle:
        faults.add("no cycle")
    kept = played(court, kinds, path + cycle)
    if kept is None:
        return faults | {"no choice in the cycle"}
    if any(not kind_in(state, kind) for state in kept[len(path) + 1:]):
        faults.add("the kind is not in the cycle")
    if kept[-1] != states[-1]:
        faults.add("the cycle doesn't come back")
    return faults
