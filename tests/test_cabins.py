"""Points 8 and 10 to 13: how a cabin stands first, what it sees, how a word is done, who steps out and in."""

import itertools
import unittest

from liftcourt.cabins import cabin_of, exchanged, steered, view
from liftcourt.houses import made_house
from restated import expected_exchange, expected_steered, expected_view

SORTS = ("free", "way")
LIGHTS = (-1, 0, 1)
WORDS = "oxuds"
HUGE = 10 ** 60 - 1


def cabin(floor, light=0, aboard=(), door=0, marks=0):
    return (2 * floor, light, door, marks, tuple(aboard))


def waiting(*rides):
    return [(10 + k, start, goal, 0) for k, (start, goal) in enumerate(rides)]


class Case(unittest.TestCase):
    def assertCabin(self, told):
        self.assertIs(type(told), tuple)
        self.assertEqual([type(part) for part in told], [int, int, int, int, tuple])
        for pair in told[4]:
            self.assertIs(type(pair), tuple)
            self.assertEqual([type(part) for part in pair], [int, int])


class First(Case):
    def test_how_a_cabin_stands_first(self):
        for start in range(8):
            for room in (1, 6):
                for turns in (1, 4):
                    for kind in ("plain", "hasty", "slow"):
                        told = cabin_of((start, room, turns, kind))
                        self.assertCabin(told)
                        self.assertEqual(told, (2 * start, 0, 0, 0, ()))

    def test_of_the_lifts_of_a_house(self):
        house = made_house(5, [(0, 2, 1, "plain"), (4, 3, 2, "hasty")], 24, "way")
        self.assertEqual([cabin_of(lift) for lift in house[1]], [(0, 0, 0, 0, ()), (8, 0, 0, 0, ())])


class View(Case):
    def assertSeen(self, sort, room, told, riders, expected):
        seen = view(sort, room, told, riders)
        self.assertIs(type(seen), tuple)
        self.assertEqual([type(part) for part in seen], [int] * 5)
        self.assertEqual(seen, expected, (sort, room, told, riders))

    def test_nobody_there(self):
        for sort in SORTS:
            for light in LIGHTS:
                for floor in (0, 3, 7):
                    self.assertSeen(sort, 1, cabin(floor, light), [], (floor, light, 0, 0, 0))

    def test_no_task_here(self):
        for sort in SORTS:
            for light in LIGHTS:
                self.assertSeen(sort, 2, cabin(2, light, [(1, 4)]), waiting((1, 2)), (2, light, 0, 2, 1))

    def test_free_is_always_2_at_a_task(self):
        for light in LIGHTS:
            for goal in (0, 1, 3, 4):
                self.assertSeen("free", 1, cabin(2, light), waiting((2, goal)), (2, light, 2, 0, 0))

    def test_way_with_a_rider_here(self):
        self.assertSeen("way", 1, cabin(2, 1), waiting((2, 3)), (2, 1, 2, 0, 0))
        self.assertSeen("way", 1, cabin(2, 1), waiting((2, 1)), (2, 1, 1, 0, 0))
        self.assertSeen("way", 1, cabin(2, -1), waiting((2, 3)), (2, -1, 1, 0, 0))
        self.assertSeen("way", 1, cabin(2, -1), waiting((2, 1)), (2, -1, 2, 0, 0))
        self.assertSeen("way", 1, cabin(2, 0), waiting((2, 3)), (2, 0, 2, 0, 0))
        self.assertSeen("way", 1, cabin(2, 0), waiting((2, 1)), (2, 0, 2, 0, 0))

    def test_one_of_several_here_goes_the_lights_way(self):
        for light in (-1, 1):
            for rides in itertools.permutations([(2, 3), (2, 1), (2, 0)]):
                self.assertSeen("way", 1, cabin(2, light), waiting(*rides), (2, light, 2, 0, 0))

    def test_one_elsewhere_that_goes_the_lights_way_does_not_count(self):
        self.assertSeen("way", 1, cabin(2, 1), waiting((2, 1), (1, 3), (4, 5)), (2, 1, 1, 2, 1))
        self.assertSeen("way", 1, cabin(2, -1), waiting((2, 3), (3, 0), (1, 0)), (2, -1, 1, 1, 1))

    def test_somebody_aboard_wishes_for_this_floor(self):
        for sort in SORTS:
            for light in LIGHTS:
                self.assertSeen(sort, 3, cabin(2, light, [(1, 2), (2, 5)]), [], (2, light, 2, 3, 0))
                self.assertSeen(sort, 3, cabin(2, light, [(1, 0), (2, 2)]), [], (2, light, 2, 0, 2))
        self.assertSeen("way", 3, cabin(2, 1, [(1, 2)]), waiting((2, 0)), (2, 1, 2, 0, 0))

    def test_who_waits_is_a_task_only_while_there_is_room(self):
        riders = waiting((2, 4), (3, 0), (1, 0))
        for sort in SORTS:
            self.assertSeen(sort, 3, cabin(2, 1, [(1, 6), (2, 7)]), riders, (2, 1, 2, 1, 1))
            self.assertSeen(sort, 2, cabin(2, 1, [(1, 6), (2, 7)]), riders, (2, 1, 0, 4, 0))
            self.assertSeen(sort, 1, cabin(2, 1, [(1, 6)]), riders, (2, 1, 0, 4, 0))
            self.assertSeen(sort, 1, cabin(2, 0), riders, (2, 0, 2, 1, 1))
        self.assertSeen("way", 6, cabin(2, -1, [(k, 0) for k in range(6)]), riders, (2, -1, 0, 0, 2))
        self.assertSeen("way", 6, cabin(2, -1, [(k, 0) for k in range(5)]), riders, (2, -1, 1, 1, 1))

    def test_a_full_cabin_at_a_goal(self):
        self.assertSeen("way", 1, cabin(2, 1, [(1, 2)]), waiting((2, 0), (3, 4)), (2, 1, 2, 0, 0))
        self.assertSeen("free", 2, cabin(2, 1, [(1, 2), (2, 0)]), waiting((1, 0), (3, 4)), (2, 1, 2, 0, 2))

    def test_the_nearest_task_counts(self):
        riders = waiting((7, 0), (5, 0), (6, 0), (0, 1), (1, 0))
        for sort in SORTS:
            self.assertSeen(sort, 2, cabin(3, 1, [(1, 7)]), riders, (3, 1, 0, 2, 2))
            self.assertSeen(sort, 2, cabin(3, 1, [(1, 4)]), riders, (3, 1, 0, 1, 2))
            self.assertSeen(sort, 2, cabin(3, -1, [(1, 2)]), riders, (3, -1, 0, 2, 1))

    def test_goals_of_those_that_wait_are_no_tasks(self):
        for sort in SORTS:
            self.assertSeen(sort, 2, cabin(3), waiting((3, 7)), (3, 0, 2, 0, 0))
            self.assertSeen(sort, 2, cabin(3), waiting((5, 3), (5, 0)), (3, 0, 0, 2, 0))

    def test_the_lowest_and_the_highest_floor(self):
        for sort in SORTS:
            self.assertSeen(sort, 2, cabin(0), waiting((7, 0)), (0, 0, 0, 7, 0))
            self.assertSeen(sort, 2, cabin(7), waiting((0, 7)), (7, 0, 0, 0, 7))
            self.assertSeen(sort, 2, cabin(0), waiting((0, 7)), (0, 0, 2, 0, 0))
            self.assertSeen(sort, 2, cabin(7), waiting((7, 0)), (7, 0, 2, 0, 0))
        self.assertSeen("way", 2, cabin(0, -1), waiting((0, 7)), (0, -1, 1, 0, 0))
        self.assertSeen("way", 2, cabin(7, 1), waiting((7, 0)), (7, 1, 1, 0, 0))

    def test_marks_door_and_lifts_are_not_looked_at(self):
        for sort in SORTS:
            for light in LIGHTS:
                expected = view(sort, 2, cabin(2, light, [(1, 3)]), waiting((2, 1), (0, 4)))
                for marks in range(4):
                    for door in range(5):
                        for lift in (-1, 0, 1, 2):
                            riders = [(10, 2, 1, lift), (11, 0, 4, -1)]
                            told = cabin(2, light, [(1, 3)], door, marks)
                            self.assertSeen(sort, 2, told, riders, expected)

    def test_against_the_points_words_over_many(self):
        rides = [(start, goal) for start in range(4) for goal in range(4) if start != goal]
        rows = [()] + [(ride,) for ride in rides] + list(itertools.product(rides, repeat=2))
        groups = [(), (0,), (1,), (2,), (3,), (1, 3), (0, 2), (3, 0)]
        for floor, light, goals, sort in itertools.product(range(4), LIGHTS, groups, SORTS):
            told = cabin(floor, light, [(k, goal) for k, goal in enumerate(goals)])
            for row in rows:
                riders = waiting(*row)
                for room in (1, 2, 3):
                    if len(goals) <= room:
                        expected = expected_view(sort, room, told, riders)
                        self.assertEqual(view(sort, room, told, riders), expected, (sort, room, told, riders))

    def test_nothing_handed_in_is_changed(self):
        riders = waiting((2, 1), (0, 4), (2, 3))
        before = list(riders)
        for sort in SORTS:
            view(sort, 2, cabin(2, 1, [(1, 3)]), riders)
            self.assertEqual(riders, before)

    def test_many_riders_and_long_tags(self):
        riders = [(HUGE - k, 1 + k % 7, 0, 0) for k in range(1200)]
        self.assertSeen("way", 1, cabin(0), riders, (0, 0, 0, 1, 0))
        self.assertSeen("free", 2, cabin(7, 1, [(HUGE + 1, 0)]), riders, (7, 1, 2, 0, 1))


class Steered(Case):
    def assertDone(self, sort, floors, turns, told, word, expected):
        done = steered(sort, floors, turns, told, word)
        self.assertCabin(done)
        self.assertEqual(done, expected, (sort, floors, turns, told, word))

    def test_an_empty_cabin(self):
        for sort in SORTS:
            for light in LIGHTS:
                told = cabin(2, light)
                self.assertDone(sort, 5, 3, told, "o", (4, light, 3, 0, ()))
                self.assertDone(sort, 5, 3, told, "x", (4, 0, 3, 0, ()))
                self.assertDone(sort, 5, 3, told, "u", (5, 1, 0, 0, ()))
                self.assertDone(sort, 5, 3, told, "d", (3, -1, 0, 0, ()))
                self.assertDone(sort, 5, 3, told, "s", (4, 0, 0, 0, ()))

    def test_somebody_aboard_of_the_sort_free(self):
        for light in LIGHTS:
            for aboard in (((1, 2),), ((1, 0),), ((1, 4), (2, 2))):
                told = cabin(2, light, aboard)
                self.assertDone("free", 5, 3, told, "o", (4, light, 3, 0, aboard))
                self.assertDone("free", 5, 3, told, "x", (4, 0, 3, 0, aboard))
                self.assertDone("free", 5, 3, told, "u", (5, 1, 0, 0, aboard))
                self.assertDone("free", 5, 3, told, "d", (3, -1, 0, 0, aboard))
                self.assertDone("free", 5, 3, told, "s", (4, light, 0, 0, aboard))

    def test_way_where_somebody_wishes_for_this_floor(self):
        for floor in (0, 2, 4):
            for light in LIGHTS:
                for aboard in (((1, floor),), ((1, floor), (2, 3)), ((2, 1), (1, floor))):
                    for word in WORDS:
                        told = cabin(floor, light, aboard)
                        self.assertDone("way", 5, 2, told, word, (2 * floor, light, 2, 0, aboard))

    def test_way_with_somebody_aboard_for_another_floor(self):
        up = ((1, 4),)
        self.assertDone("way", 5, 2, cabin(2, 1, up), "o", (4, 1, 2, 0, up))
        self.assertDone("way", 5, 2, cabin(2, 1, up), "x", (4, 1, 2, 0, up))
        self.assertDone("way", 5, 2, cabin(2, 1, up), "u", (5, 1, 0, 0, up))
        self.assertDone("way", 5, 2, cabin(2, 1, up), "d", (4, 1, 0, 0, up))
        self.assertDone("way", 5, 2, cabin(2, 1, up), "s", (4, 1, 0, 0, up))
        down = ((1, 0),)
        self.assertDone("way", 5, 2, cabin(2, -1, down), "o", (4, -1, 2, 0, down))
        self.assertDone("way", 5, 2, cabin(2, -1, down), "x", (4, -1, 2, 0, down))
        self.assertDone("way", 5, 2, cabin(2, -1, down), "u", (4, -1, 0, 0, down))
        self.assertDone("way", 5, 2, cabin(2, -1, down), "d", (3, -1, 0, 0, down))
        self.assertDone("way", 5, 2, cabin(2, -1, down), "s", (4, -1, 0, 0, down))

    def test_the_ends_of_the_house(self):
        for sort in SORTS:
            for floors in range(2, 9):
                for light in LIGHTS:
                    top = cabin(floors - 1, light)
                    self.assertDone(sort, floors, 1, top, "u", (2 * floors - 2, 0, 0, 0, ()))
                    self.assertDone(sort, floors, 1, top, "d", (2 * floors - 3, -1, 0, 0, ()))
                    self.assertDone(sort, floors, 1, cabin(0, light), "d", (0, 0, 0, 0, ()))
                    self.assertDone(sort, floors, 1, cabin(0, light), "u", (1, 1, 0, 0, ()))

    def test_the_ends_with_somebody_aboard(self):
        for light in LIGHTS:
            told = cabin(4, light, [(1, 0)])
            self.assertDone("free", 5, 1, told, "u", told)
            told = cabin(0, light, [(1, 3)])
            self.assertDone("free", 5, 1, told, "d", told)
        told = cabin(4, -1, [(1, 0)])
        self.assertDone("way", 5, 1, told, "u", told)
        told = cabin(0, 1, [(1, 3)])
        self.assertDone("way", 5, 1, told, "d", told)

    def test_below_the_highest_floor_of_a_higher_house(self):
        self.assertDone("free", 5, 1, cabin(3), "u", (7, 1, 0, 0, ()))
        self.assertDone("free", 4, 1, cabin(3), "u", (6, 0, 0, 0, ()))
        self.assertDone("free", 4, 1, cabin(1), "d", (1, -1, 0, 0, ()))

    def test_the_doors_turns(self):
        for sort in SORTS:
            for turns in range(1, 5):
                self.assertDone(sort, 3, turns, cabin(1, 1), "o", (2, 1, turns, 0, ()))
                self.assertDone(sort, 3, turns, cabin(1, 1), "x", (2, 0, turns, 0, ()))

    def test_against_the_points_words_over_many(self):
        groups = [(), (0,), (1,), (2,), (3,), (1, 3), (2, 0), (1, 1, 2)]
        for floor, light, goals, marks in itertools.product(range(4), LIGHTS, groups, range(4)):
            told = cabin(floor, light, [(HUGE - k, goal) for k, goal in enumerate(goals)], 0, marks)
            for sort, turns, word in itertools.product(SORTS, (1, 4), WORDS):
                self.assertDone(sort, 4, turns, told, word, expected_steered(sort, 4, turns, told, word))


class Exchanged(Case):
    def assertExchanged(self, sort, room, told, riders, expected):
        answer = exchanged(sort, room, told, riders)
        self.assertIs(type(answer), tuple)
        self.assertEqual([type(part) for part in answer], [tuple, list, list])
        self.assertCabin(answer[0])
        self.assertEqual(answer, expected, (sort, room, told, riders))

    def test_nobody_steps(self):
        for sort in SORTS:
            for light in LIGHTS:
                told = cabin(2, light, [(1, 0), (2, 4)], 2, 1)
                self.assertExchanged(sort, 3, told, waiting((1, 2), (3, 2)), (told, [], []))
                self.assertExchanged(sort, 3, told, [], (told, [], []))
                self.assertExchanged(sort, 3, cabin(2, light, [], 1), [], (cabin(2, light, [], 1), [], []))

    def test_all_whose_goal_is_here_step_out_in_their_order(self):
        aboard = [(5, 2), (1, 4), (9, 2), (3, 0), (4, 2)]
        for sort in SORTS:
            for light in LIGHTS:
                behind = cabin(2, light, [(1, 4), (3, 0)], 3)
                self.assertExchanged(sort, 6, cabin(2, light, aboard, 3), [], (behind, [5, 9, 4], []))

    def test_riders_step_in_in_their_order(self):
        riders = [(7, 2, 4, 0), (3, 1, 4, 0), (9, 2, 3, 0), (2, 2, 4, 0)]
        for sort in SORTS:
            behind = cabin(2, 1, [(1, 3), (7, 4), (9, 3), (2, 4)], 1)
            self.assertExchanged(sort, 6, cabin(2, 1, [(1, 3)], 1), riders, (behind, [], [7, 9, 2]))

    def test_only_while_there_is_room(self):
        riders = waiting((2, 4), (2, 3), (2, 4))
        for sort in SORTS:
            for room in range(1, 5):
                tags = [10, 11, 12][:room]
                goals = [4, 3, 4][:room]
                behind = cabin(2, 1, list(zip(tags, goals)), 1)
                self.assertExchanged(sort, room, cabin(2, 1, [], 1), riders, (behind, [], tags))

    def test_a_full_cabin_takes_nobody(self):
        for sort in SORTS:
            for room in range(1, 7):
                told = cabin(2, 1, [(k, 4) for k in range(room)], 1)
                self.assertExchanged(sort, room, told, waiting((2, 4)), (told, [], []))

    def test_who_steps_out_makes_room(self):
        for sort in SORTS:
            told = cabin(2, 1, [(1, 2), (2, 4)], 1)
            behind = cabin(2, 1, [(2, 4), (10, 3)], 1)
            self.assertExchanged(sort, 2, told, waiting((2, 3), (2, 4)), (behind, [1], [10]))

    def test_free_takes_all_ways_and_keeps_the_light(self):
        for light in LIGHTS:
            behind = cabin(2, light, [(10, 0), (11, 4), (12, 1)], 1)
            told = cabin(2, light, [], 1)
            self.assertExchanged("free", 6, told, waiting((2, 0), (2, 4), (2, 1)), (behind, [], [10, 11, 12]))

    def test_way_takes_those_that_go_the_lights_way(self):
        riders = waiting((2, 0), (2, 4), (2, 1), (2, 3))
        up = cabin(2, 1, [(11, 4), (13, 3)], 1)
        self.assertExchanged("way", 6, cabin(2, 1, [], 1), riders, (up, [], [11, 13]))
        down = cabin(2, -1, [(10, 0), (12, 1)], 1)
        self.assertExchanged("way", 6, cabin(2, -1, [], 1), riders, (down, [], [10, 12]))

    def test_way_with_the_light_out_goes_as_the_first_that_steps_in(self):
        riders = waiting((2, 0), (2, 4), (2, 1), (2, 3))
        behind = cabin(2, -1, [(10, 0), (12, 1)], 1)
        self.assertExchanged("way", 6, cabin(2, 0, [], 1), riders, (behind, [], [10, 12]))
        behind = cabin(2, 1, [(13, 3), (11, 4)], 1)
        self.assertExchanged("way", 6, cabin(2, 0, [], 1), riders[::-1], (behind, [], [13, 11]))

    def test_one_at_another_floor_does_not_settle_the_light(self):
        behind = cabin(2, 1, [(11, 4)], 1)
        self.assertExchanged("way", 6, cabin(2, 0, [], 1), waiting((3, 0), (2, 4)), (behind, [], [11]))

    def test_the_light_stays_where_the_last_one_steps_out(self):
        for sort in SORTS:
            for light in LIGHTS:
                told = cabin(2, light, [(1, 2)], 1)
                self.assertExchanged(sort, 1, told, [], (cabin(2, light, [], 1), [1], []))

    def test_the_lowest_and_the_highest_floor(self):
        for sort in SORTS:
            low = cabin(0, 1 if sort == "way" else 0, [(10, 7)], 1)
            self.assertExchanged(sort, 1, cabin(0, 0, [(1, 0)], 1), waiting((0, 7)), (low, [1], [10]))
            high = cabin(7, -1 if sort == "way" else 0, [(10, 0)], 1)
            self.assertExchanged(sort, 1, cabin(7, 0, [(1, 7)], 1), waiting((7, 0)), (high, [1], [10]))

    def test_door_marks_and_lifts_are_not_looked_at_and_stay(self):
        for sort in SORTS:
            for marks in range(4):
                for door in range(1, 5):
                    for lift in (-1, 0, 1, 2):
                        told = cabin(2, 1, [(1, 2)], door, marks)
                        behind = cabin(2, 1, [(10, 3)], door, marks)
                        self.assertExchanged(sort, 1, told, [(10, 2, 3, lift)], (behind, [1], [10]))

    def test_against_the_points_words_over_many(self):
        rides = [(1, 0), (1, 2), (1, 3), (0, 2), (2, 0)]
        rows = [row for size in range(4) for row in itertools.product(rides, repeat=size)]
        groups = [(), (0,), (1,), (3,), (1, 2), (2, 1, 1), (0, 1, 0)]
        for light, goals, sort, room in itertools.product(LIGHTS, groups, SORTS, (1, 2, 3)):
            told = cabin(1, light, [(HUGE - k, goal) for k, goal in enumerate(goals[:room])], 2, 2)
            for row in rows:
                riders = waiting(*row)
                self.assertExchanged(sort, room, told, riders, expected_exchange(sort, room, told, riders))

    def test_nothing_handed_in_is_changed(self):
        riders = waiting((2, 1), (0, 4), (2, 3))
        before = list(riders)
        told = cabin(2, 0, [(1, 2), (2, 0)], 1)
        for sort in SORTS:
            exchanged(sort, 3, told, riders)
            self.assertEqual(riders, before)
            self.assertEqual(told, (4, 0, 1, 0, ((1, 2), (2, 0))))

    def test_a_change_afterwards_changes_nothing(self):
        riders = waiting((2, 1), (2, 0))
        told = cabin(2, 0, [(1, 2)], 1)
        expected = (cabin(2, -1, [(10, 1), (11, 0)], 1), [1], [10, 11])
        first = exchanged("way", 2, told, riders)
        riders.clear()
        self.assertEqual(first, expected)
        first[1].append(77)
        first[2].clear()
        self.assertEqual(exchanged("way", 2, told, waiting((2, 1), (2, 0))), expected)

    def test_the_two_lists_are_not_one(self):
        told, outs, ins = exchanged("free", 1, cabin(2, 0, [], 1), [])
        outs.append(1)
        self.assertEqual(ins, [])

    def test_many_riders(self):
        riders = [(HUGE - k, k % 8, (k + 1) % 8, 0) for k in range(1200)]
        tags = [HUGE - k for k in range(2, 1200, 8)][:6]
        behind = cabin(2, 1, [(tag, 3) for tag in tags], 1)
        self.assertExchanged("way", 6, cabin(2, 0, [], 1), riders, (behind, [], tags))


if __name__ == "__main__":
    unittest.main()
