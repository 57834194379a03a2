"""A call of each function of the interface with plain things, and each refusal; for the tests of the whole program."""

from liftcourt.cabins import cabin_of, exchanged, steered, view
from liftcourt.courts import Court
from liftcourt.days import fates, read_day, read_turn, run, shown_day, shown_turn, waits_of
from liftcourt.dealing import dealer_of, serving
from liftcourt.deeds import need_deed
from liftcourt.desk import Desk
from liftcourt.doors import door_of
from liftcourt.errors import (
    Empty, NoDeal, NoDeed, NoFloor, NoHouse, NoIll, NoLift, NoLine, NoRide, NoRule, TooMany, Twice,
)
from liftcourt.graphs import choices, graph_of, led, present, row_to
from liftcourt.heaps import Heap
from liftcourt.houses import made_house, read_house, shown_house
from liftcourt.ills import ill_of, way_to
from liftcourt.least import dealt, lacks, least_of
from liftcourt.looks import is_cycle, is_rank
from liftcourt.masks import above, below, bit, has, highest, listed, lowest, mask_of, with_bit, without
from liftcourt.ranks import longest, ranks_of
from liftcourt.rules import Table, as_table, rule_of
from liftcourt.words import number_of

TEXT = "4 way 3; 0 2 1 plain; 3 1 2 slow"
KINDS = [(0, 1), (1, 0)]
RIDERS = [(0, 0, 1), (0, 2, 1), (3, 1, 0)]
LINES = ["house " + TEXT, "turn come 0 2,come 2 1", "turn stick 1", "court", "wait", "kinds 0 1", "settle 0",
         "ill crowd 1", "least 20 0 0 1, 0 2 1", "lack 20 0 0 1, 0 2 1", "rule nearest", "deal turns", "court"]


def house():
    return read_house(TEXT)


def court(text="2 free; 0 1 1 plain"):
    there = read_house(text)
    return Court(there, rule_of("sweep", there[0]), dealer_of("near", there))


def some_state():
    return court(TEXT).turn(court(TEXT).begin(), [("come", 5, 0, 2, False), ("stick", 1)])[0]


def some_day():
    return read_day("come 0 2,come 2 1;stick 1;;fire;;;;;;calm;come 2 0", house())


def some_rows():
    graph = graph_of(court(), KINDS, 500)
    return list(zip(graph[0], ranks_of(graph, 0)))


def dealing(text, cabins, waiting):
    return dealer_of(text, house())(cabins, waiting, waiting[-1], 0)


def word(text, seen):
    return rule_of(text, 4).word(seen)


def left(kind, count, blocked):
    return door_of(kind, 3).left(count, blocked, True)


def is_ill(text, state):
    return ill_of(text, house())(state)


def emptied(things):
    heap = Heap()
    for thing in things:
        heap.put(thing)
    return [heap.size()] + [heap.take() for _ in things]


def said(lines):
    desk = Desk()
    return [desk.say(line) for line in lines]


def turned(state, deeds):
    return court(TEXT).turn(state, deeds)


def days_run(state, day):
    return run(court(TEXT), state, day)


def fates_of(day):
    return fates(day, run(court(TEXT), court(TEXT).begin(), day))


def waiting():
    return [(4, 0, 1, 0), (7, 2, 1, -1)]


def cabins():
    return [(0, 1, 0, 0, ((9, 2),)), (3, -1, 0, 0, ())]


# Each a function and what makes the things that it is handed, fresh each time.
CALLS = (
    (bit, lambda: [5]), (has, lambda: [22, 2]), (with_bit, lambda: [22, 3]), (without, lambda: [22, 2]),
    (above, lambda: [22, 1]), (below, lambda: [22, 4]), (mask_of, lambda: [[4, 1, 2, 1]]), (listed, lambda: [22]),
    (lowest, lambda: [22]), (highest, lambda: [22]), (number_of, lambda: ["305"]),
    (made_house, lambda: [3, [(0, 1, 1, "plain"), (2, 2, 4, "slow")], 4, "free"]), (read_house, lambda: [TEXT]),
    (shown_house, lambda: [house()]), (left, lambda: ["slow", 2, False]), (left, lambda: ["hasty", 2, True]),
    (cabin_of, lambda: [house()[1][1]]), (view, lambda: ["way", 2, cabins()[0], waiting()]),
    (steered, lambda: ["way", 4, 2, cabins()[0], "u"]),
    (exchanged, lambda: ["way", 2, (0, 1, 1, 0, ((9, 2),)), waiting()]),
    (word, lambda: ["nearest", (1, 1, 0, 2, 1)]), (as_table, lambda: [rule_of("shuttle", 4)]),
    (serving, lambda: [cabins()]), (dealing, lambda: ["near", cabins(), waiting()]),
    (dealing, lambda: ["least", cabins(), waiting()]), (dealing, lambda: ["turns", tuple(cabins()), waiting()]),
    (dealing, lambda: ["zone 0 1 1 0", cabins(), tuple(waiting())]),
    (dealing, lambda: ["fixed 1", cabins(), waiting()]),
    (need_deed, lambda: [house(), ("come", 3, 0, 1, True)]),
    (turned, lambda: [some_state(), [("come", 8, 1, 2, False), ("free", 1), ("block", 0), ("come", 9, 0, 3, False)]]),
    (read_turn, lambda: ["come 0 1,stick 0,fire", house(), 7]), (shown_turn, lambda: [some_day()[0]]),
    (read_day, lambda: ["come 0 1;;stick 0,come 1 0 key", house()]), (shown_day, lambda: [some_day()]),
    (days_run, lambda: [court(TEXT).begin(), some_day()]), (fates_of, lambda: [some_day()]),
    (waits_of, lambda: [[(0, 1, "out", 6), (3, 2, "waits", 2), (4, 2, "barred", 2)], 30]),
    (choices, lambda: [court().begin(), list(KINDS)]), (led, lambda: [court(), list(KINDS), court().begin(), 1]),
    (present, lambda: [some_state(), 5]), (graph_of, lambda: [court(), list(KINDS), 500]),
    (row_to, lambda: [[None, (0, 1), (1, -1)], 2]), (is_ill, lambda: ["crowd 1 and idle 0", some_state()]),
    (way_to, lambda: [court(), list(KINDS), ill_of("crowd 2", court().house), 500]),
    (ranks_of, lambda: [graph_of(court(), KINDS, 500), 0]), (longest, lambda: [court(), list(KINDS), 0, 500]),
    (longest, lambda: [Court(court().house, Table("s" * 36), court().dealer), list(KINDS), 0, 500]),
    (is_rank, lambda: [court(), list(KINDS), 0, some_rows()]),
    (is_cycle, lambda: [court(), list(KINDS), 0, [0], [-1, -1]]), (emptied, lambda: [[3, 1, 2, 1]]),
    (dealt, lambda: [house(), rule_of("sweep", 4), list(RIDERS), [0, 1, 0], 20]),
    (least_of, lambda: [house(), rule_of("sweep", 4), list(RIDERS), 20]),
    (lacks, lambda: [house(), rule_of("sweep", 4), list(RIDERS), 20, ["near", "turns"]]), (said, lambda: [list(LINES)]),
)

REFUSED = (
    (NoHouse, read_house, lambda: ["9 free; 0 1 1 plain"]), (NoHouse, made_house, lambda: [2, [], 0, "free"]),
    (NoRule, rule_of, lambda: ["near", 4]), (NoRule, Table, lambda: ["s" * 35]),
    (NoDeal, dealer_of, lambda: ["sweep", house()]), (NoDeed, read_turn, lambda: ["come", house()]),
    (NoDeed, read_day, lambda: ["fire;go", house()]), (NoFloor, need_deed, lambda: [house(), ("come", 1, 4, 4, True)]),
    (NoRide, need_deed, lambda: [house(), ("come", 1, 2, 2, False)]),
    (NoLift, need_deed, lambda: [house(), ("stick", 2)]),
    (NoFloor, turned, lambda: [some_state(), [("come", 8, 1, 2, False), ("come", 9, -1, 2, False)]]),
    (Twice, turned, lambda: [some_state(), [("fire",), ("come", 5, 1, 2, False)]]),
    (Twice, days_run, lambda: [court(TEXT).begin(), [[("come", 0, 0, 1, False)]] * 2]),
    (NoRide, graph_of, lambda: [court(), [(0, 1), (1, 1)], 500]),
    (TooMany, graph_of, lambda: [court(), list(KINDS), 5]),
    (NoIll, ill_of, lambda: ["crowd", house()]), (TooMany, longest, lambda: [court(), list(KINDS), 0, 5]),
    (TooMany, way_to, lambda: [court(), list(KINDS), ill_of("crowd 0", court().house), 5]), (Empty, Heap().take, list),
    (NoFloor, dealt, lambda: [house(), rule_of("sweep", 4), [(0, 0, 1), (0, 9, 1)], [0, 0], 20]),
    (NoRide, least_of, lambda: [house(), rule_of("sweep", 4), [(0, 0, 1), (0, 1, 1)], 20]),
    (NoDeal, lacks, lambda: [house(), rule_of("sweep", 4), [(0, 1, 1)], 20, ["near", ""]]),
    (NoLine, Desk().say, lambda: ["court"]), (NoLine, said, lambda: [LINES + ["go"]]),
    (NoDeed, said, lambda: [LINES + ["turn go"]]), (NoIll, said, lambda: [LINES + ["ill "]]),
)


def answers():
    """All answers, told as a text."""
    return "\n".join(repr(call(*make())) for call, make in CALLS)
