"""Points 1 to 3 and the interface, over the whole program."""

import copy
import importlib
import inspect
import os
import pathlib
import random
import subprocess
import sys
import unittest

from all_calls import CALLS, REFUSED, answers
from chances import WILD, drawn_deeds, drawn_house
from court_case import HUGE, court_of
from liftcourt import errors
from liftcourt.courts import Court
from liftcourt.dealing import dealer_of
from liftcourt.desk import Desk
from liftcourt.errors import CourtError
from liftcourt.graphs import graph_of
from liftcourt.houses import shown_house
from liftcourt.looks import is_cycle, is_rank
from liftcourt.ranks import longest, ranks_of
from liftcourt.rules import rule_of
from rank_case import RankCase
from restated_desk import RetoldDesk, said
from safe_turns import faults_of_turn
from small_houses import SMALL, small_houses

TOP = pathlib.Path(__file__).resolve().parent.parent

# The interface: each function with its arguments; a class with its base and the arguments that it is made of.
FUNCTIONS = {
    "masks": "bit(k) with_bit(mask,k) without(mask,k) above(mask,k) below(mask,k) mask_of(numbers) has(mask,k)"
             " listed(mask) lowest(mask) highest(mask)",
    "words": "number_of(text)",
    "houses": "made_house(floors,lifts,locked,sort) read_house(text) shown_house(house)",
    "doors": "door_of(kind,turns)",
    "cabins": "cabin_of(lift) view(sort,room,cabin,riders) steered(sort,floors,turns,cabin,word)"
              " exchanged(sort,room,cabin,riders)",
    "rules": "as_table(rule) rule_of(text,floors)",
    "dealing": "serving(cabins) dealer_of(text,house)",
    "deeds": "need_deed(house,deed)",
    "days": "read_turn(text,house,first=0) shown_turn(deeds) read_day(text,house) shown_day(day) run(court,state,day)"
            " fates(day,steps) waits_of(fates_told,turns)",
    "graphs": "choices(state,kinds) led(court,kinds,state,choice) present(state,kind) graph_of(court,kinds,most)"
              " row_to(firsts,number)",
    "ills": "ill_of(text,house) way_to(court,kinds,ill,most)",
    "ranks": "ranks_of(graph,kind) longest(court,kinds,kind,most)",
    "looks": "is_rank(court,kinds,kind,rows) is_cycle(court,kinds,kind,path,cycle)",
    "least": "dealt(house,rule,riders,dealing,turns) least_of(house,rule,riders,turns)"
             " lacks(house,rule,riders,turns,texts)",
}
METHODS = {
    "doors": ("Door.left(count,blocked,stepped)", "Hasty.left(count,blocked,stepped)",
              "Slow.left(count,blocked,stepped)"),
    "rules": ("Rule.word(seen)", "Homing.word(seen)", "Nearest.word(seen)", "Shuttle.word(seen)", "Table.word(seen)"),
    "courts": ("Court.begin()", "Court.turn(state,deeds)"),
    "heaps": ("Heap.put(thing)", "Heap.take()", "Heap.size()"),
    "desk": ("Desk.say(line)",),
}
MADE_OF = {
    "doors": {"Door": ("object", "(turns)"), "Hasty": ("Door", "(turns)"), "Slow": ("Door", "(turns)")},
    "rules": {"Rule": ("object", "()"), "Homing": ("Rule", "()"), "Nearest": ("Rule", "()"),
              "Shuttle": ("Rule", "(top)"), "Table": ("Rule", "(letters)")},
    "courts": {"Court": ("object", "(house,rule,dealer)")},
    "heaps": {"Heap": ("object", "()")},
    "desk": {"Desk": ("object", "()")},
}
REFUSALS = ("NoHouse NoRule NoDeal NoDeed NoRide NoIll NoLine Empty NoFloor NoLift Twice TooMany").split()
PLAIN = (int, str, bool, type(None), list, tuple)


def module(name):
    return importlib.import_module("liftcourt." + name)


def modules():
    return [module(path.stem) for path in sorted((TOP / "liftcourt").glob("*.py")) if path.stem != "__init__"]


def shown_signature(thing):
    return str(inspect.signature(thing)).replace(" ", "")


def parts_of(thing):
    """The thing, and all that lies in it."""
    yield thing
    if isinstance(thing, (list, tuple)):
        for part in thing:
            yield from parts_of(part)


def spoil(thing):
    """All lists within the thing are cleared."""
    for part in list(parts_of(thing)):
        if isinstance(part, list):
            part.clear()


class Interface(unittest.TestCase):
    def test_functions(self):
        for name, text in FUNCTIONS.items():
            for row in text.split():
                function, given = row.split("(", 1)
                with self.subTest(module=name, function=function):
                    there = getattr(module(name), function)
                    self.assertEqual(shown_signature(there), "(" + given)
                    self.assertEqual(there.__module__, "liftcourt." + name)

    def test_classes(self):
        for name, classes in MADE_OF.items():
            for word, (base, given) in classes.items():
                with self.subTest(module=name, made=word):
                    there = getattr(module(name), word)
                    self.assertEqual([above.__name__ for above in there.__bases__], [base])
                    self.assertEqual(shown_signature(there), given)

    def test_methods(self):
        for name, rows in METHODS.items():
            for row in rows:
                where, given = row.split("(", 1)
                word, method = where.split(".")
                with self.subTest(module=name, method=where):
                    there = shown_signature(getattr(getattr(module(name), word), method))
                    self.assertEqual(there, "(self," + given if given != ")" else "(self)")

    def test_fields(self):
        court = court_of("2 free; 0 1 1 plain")
        self.assertEqual(sorted(vars(court)), ["dealer", "house", "rule"])
        self.assertEqual(module("doors").Hasty(3).turns, 3)

    def test_refusals(self):
        for word in REFUSALS:
            self.assertEqual(getattr(errors, word).__bases__, (CourtError,))
        found = {thing for there in modules() for thing in vars(there).values()
                 if isinstance(thing, type) and issubclass(thing, CourtError) and thing is not CourtError}
        self.assertEqual({thing.__name__ for thing in found}, set(REFUSALS))


class Plain(unittest.TestCase):
    """Point 2, for each call of the interface."""

    def test_each_function_is_called(self):
        text = inspect.getsource(sys.modules["all_calls"])
        for rows in FUNCTIONS.values():
            for row in rows.split():
                self.assertIn(row.split("(")[0], text)

    def test_what_is_told_is_of_plain_kinds(self):
        for call, make in CALLS:
            for part in parts_of(call(*make())):
                self.assertIn(type(part), PLAIN, call.__name__)

    def test_nothing_that_is_handed_in_is_changed(self):
        for call, make in CALLS:
            handed, kept = make(), make()
            call(*handed)
            for one, other in zip(handed, kept):
                if type(one) in PLAIN:
                    self.assertEqual(one, other, call.__name__)

    def test_what_is_done_to_it_afterwards_changes_nothing(self):
        for call, make in CALLS:
            handed = make()
            told = call(*handed)
            kept = copy.deepcopy(told)
            spoil(handed)
            self.assertEqual(told, kept, call.__name__)

    def test_what_is_told_is_the_askers_own(self):
        for call, make in CALLS:
            handed = make()
            told = call(*handed)
            kept = copy.deepcopy(told)
            again = call(*handed)
            spoil(again)
            self.assertEqual(told, kept, call.__name__)
            self.assertEqual(call(*make()), kept, call.__name__)

    def test_nothing_hangs_on_what_was_asked_before(self):
        source = random.Random(2)
        first = [call(*make()) for call, make in CALLS]
        for _ in range(3):
            order = list(range(len(CALLS)))
            source.shuffle(order)
            for number in order:
                call, make = CALLS[number]
                self.assertEqual(call(*make()), first[number], call.__name__)
                error, refused, make_wrong = source.choice(REFUSED)
                self.assertRaises(error, refused, *make_wrong())

    def test_each_refusal_is_of_just_its_class(self):
        for error, call, make in REFUSED:
            handed, kept = make(), make()
            with self.assertRaises(CourtError) as caught:
                call(*handed)
            self.assertIs(type(caught.exception), error)
            for one, other in zip(handed, kept):
                if type(one) in PLAIN:
                    self.assertEqual(one, other)
        self.assertEqual({error.__name__ for error, call, make in REFUSED}, set(REFUSALS))

    def test_nothing_is_kept_in_the_modules(self):
        def kept():
            return {(there.__name__, name): repr(value) for there in modules() for name, value in vars(there).items()
                    if not name.startswith("__")}

        before = kept()
        for call, make in CALLS:
            spoil(call(*make()))
        self.assertEqual(kept(), before)

    def test_the_same_in_other_processes(self):
        code = "from all_calls import answers; print(answers())"
        for seed in ("0", "1", "77"):
            around = {**os.environ, "PYTHONHASHSEED": seed, "PYTHONPATH": f"{TOP}{os.pathsep}{TOP / 'tests'}",
                      "PYTHONDONTWRITEBYTECODE": "1"}
            done = subprocess.run([sys.executable, "-c", code], env=around, cwd="/", capture_output=True, text=True)
            self.assertEqual((done.stderr, done.stdout), ("", answers() + "\n"))


RULES = ("sweep", "homing", "nearest", "shuttle", "table " + "oxuds" * 7 + "o", "table " + "xo" * 18)


class Safe(unittest.TestCase):
    """Point 3: under every rule, every dealing, and every row of riders and faults, each turn is safe."""

    def test_every_rule_and_dealer_that_can_be_read(self):
        source = random.Random(3)
        for rule in RULES:
            for name in ("near", "least", "turns", "zone", "fixed"):
                house = drawn_house(source)
                many = {"zone": house[0], "fixed": source.randint(1, 9)}.get(name, 0)
                text = " ".join([name] + [str(source.randrange(len(house[1]))) for _ in range(many)])
                court = Court(house, rule_of(rule, house[0]), dealer_of(text, house))
                state = court.begin()
                for turn in range(60):
                    deeds = drawn_deeds(source, house, WILD, HUGE - 100 * (turn + 1), 6)
                    behind, log = court.turn(state, deeds)
                    self.assertEqual(faults_of_turn(court, state, deeds, behind, log), [])
                    state = behind


class Settled(RankCase):
    """Point 3: of a small house and each kind of its riders it is settled how long one can wait."""

    def settle(self, court, kinds, kind):
        graph = graph_of(court, kinds, 1000)
        ranks = ranks_of(graph, kind)
        told = longest(court, kinds, kind, 1000)
        if told[0] == "never":
            self.assertIs(is_cycle(court, kinds, kind, told[1], told[2]), True)
            # Nobody's ranks are good where one can wait for ever.
            for great in (1, 1000, HUGE):
                rows = [(state, great if rank is None else rank) for state, rank in zip(graph[0], ranks)]
                self.assertIs(is_rank(court, kinds, kind, rows), False)
            return told
        # These ranks are good, so no row of comings keeps one longer than the greatest; and one waits so long.
        rows = list(zip(graph[0], ranks))
        self.assertIs(is_rank(court, kinds, kind, rows), True)
        self.assertEqual(told[1], max(ranks))
        self.assertSoLong(court, kinds, kind, told[1], told[2])
        return told

    def test_small_houses(self):
        words = []
        for court, kinds in small_houses():
            for kind in range(len(kinds)):
                words.append(self.settle(court, kinds, kind)[0])
        self.assertEqual(set(words), {"most", "never"})

    def test_at_the_desk(self):
        for text, rule, dealer, kinds in SMALL:
            if not isinstance(dealer, str):
                continue
            desk, model = Desk(), RetoldDesk()
            shown = ", ".join(f"{start} {goal}" for start, goal in kinds)
            for line in ("house " + text, "rule " + rule, "deal " + dealer, "kinds " + shown):
                self.assertEqual((desk.say(line), model.say(line)), ("ok", "ok"))
            court = court_of(text, rule, dealer)
            for kind in range(len(kinds)):
                told = longest(court, kinds, kind, 500)
                words = desk.say(f"settle {kind}").split(" ")
                self.assertEqual(words[0], told[0])
                if told[0] == "most":
                    self.assertEqual(int(words[1]), told[1])

    def test_a_day_at_the_desk_is_that_of_the_points(self):
        source = random.Random(1)
        for rule in RULES:
            desk, model = Desk(), RetoldDesk()
            house = shown_house(drawn_house(source))
            for line in ("house " + house, "rule " + rule, "deal least"):
                self.assertEqual(said(desk, line), model.say(line))
            for _ in range(30):
                start, goal = source.randrange(3), source.randrange(3)
                deeds = source.choice((f"come {start} {goal}", "", "stick 0", "free 0", "fire", "calm", "block 0"))
                for line in ("turn " + deeds, "court", "wait"):
                    self.assertEqual(said(desk, line), model.say(line), line)


if __name__ == "__main__":
    unittest.main()
