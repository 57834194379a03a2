"""Point 34: the heap."""

import itertools
import random
import unittest

from liftcourt.errors import CourtError, Empty
from liftcourt.heaps import Heap


class Less:
    """A thing that can be compared by < and by nothing else."""

    def __init__(self, number):
        self.number = number

    def __lt__(self, other):
        return self.number < other.number

    __eq__ = None
    __gt__ = None
    __le__ = None
    __ge__ = None
    __hash__ = None


def heap_of(things):
    heap = Heap()
    for thing in things:
        heap.put(thing)
    return heap


def emptied(heap):
    return [heap.take() for _ in range(heap.size())]


class HeapCase(unittest.TestCase):
    def assertEmpty(self, heap):
        self.assertEqual(heap.size(), 0)
        with self.assertRaises(CourtError) as caught:
            heap.take()
        self.assertIs(type(caught.exception), Empty)
        self.assertEqual(heap.size(), 0)

    def assertTaken(self, things):
        heap = heap_of(things)
        self.assertEqual(heap.size(), len(things))
        self.assertEqual(emptied(heap), sorted(things))
        self.assertEmpty(heap)


class Taking(HeapCase):
    def test_numbers(self):
        for things in ([7], [1, 2], [2, 1], [3, 1, 2], [0, -1, 5, -7], [10 ** 60, -(10 ** 60), 0]):
            self.assertTaken(things)

    def test_all_orders_of_a_few(self):
        for many in range(8):
            for things in itertools.permutations(range(many)):
                self.assertTaken(list(things))

    def test_equal_things(self):
        for many in range(7):
            for things in itertools.product((0, 1, 2), repeat=many):
                self.assertTaken(list(things))
        self.assertTaken([5] * 100)

    def test_tuples(self):
        self.assertTaken([(1, 2), (1,), (), (0, 9, 9), (1, 2, 0), (1, 1), (1, 2)])
        source = random.Random(34)
        for many in (10, 100, 300):
            self.assertTaken([tuple(source.choices(range(3), k=source.randint(0, 4))) for _ in range(many)])

    def test_tuples_are_told_as_they_were(self):
        heap = heap_of([(2, (0, 1)), (1, (1, 1)), (1, (0, 2))])
        told = heap.take()
        self.assertIs(type(told), tuple)
        self.assertEqual(told, (1, (0, 2)))

    def test_nothing_but_less_is_asked(self):
        source = random.Random(35)
        numbers = [source.randrange(20) for _ in range(60)]
        heap = heap_of([Less(number) for number in numbers])
        self.assertEqual([thing.number for thing in emptied(heap)], sorted(numbers))

    def test_rising_falling_and_as_a_saw(self):
        for many in (2, 3, 31, 32, 33, 100):
            self.assertTaken(list(range(many)))
            self.assertTaken(list(range(many, 0, -1)))
            self.assertTaken([number * 7 % many for number in range(many)])


class Mixed(HeapCase):
    def play(self, source, draw, steps, most):
        heap = Heap()
        plain = []
        for _ in range(steps):
            if len(plain) < most and source.random() < 0.55:
                thing = draw()
                self.assertIs(heap.put(thing), None)
                plain.append(thing)
            elif plain:
                least = min(plain)
                plain.remove(least)
                self.assertEqual(heap.take(), least)
            else:
                self.assertEmpty(heap)
            self.assertEqual(heap.size(), len(plain))
            self.assertIs(type(heap.size()), int)
        self.assertEqual(emptied(heap), sorted(plain))

    def test_puts_and_takes_against_a_plain_list(self):
        source = random.Random(36)
        for most in (1, 2, 3, 5, 20, 200):
            for width in (1, 3, 50, 10 ** 60):
                self.play(source, lambda: source.randrange(-width, width), 300, most)
                self.play(source, lambda: (source.randrange(width), source.randrange(3)), 300, most)

    def test_twelve_hundred_at_once(self):
        source = random.Random(37)
        things = [source.randrange(400) for _ in range(1200)]
        self.assertTaken(things)
        self.assertTaken(list(range(1200)))
        self.assertTaken(list(range(1200, 0, -1)))
        heap = heap_of(things)
        for number in range(5000):
            heap.take()
            heap.put(number % 777)
        self.assertEqual(heap.size(), 1200)
        told = emptied(heap)
        self.assertEqual(told, sorted(told))


class Emptiness(HeapCase):
    def test_a_new_heap(self):
        heap = Heap()
        self.assertEmpty(heap)
        self.assertEmpty(heap)

    def test_it_is_used_again_behind_that(self):
        heap = Heap()
        for things in ([3, 1, 2], [5], [(1, 2), (0, 3)], [0, 0]):
            self.assertEmpty(heap)
            for thing in things:
                heap.put(thing)
            self.assertEqual(emptied(heap), sorted(things))
        self.assertEmpty(heap)

    def test_what_is_0_or_without_things_is_a_thing(self):
        heap = heap_of([0])
        self.assertEqual((heap.size(), heap.take(), heap.size()), (1, 0, 0))
        heap.put(())
        self.assertEqual((heap.size(), heap.take(), heap.size()), (1, (), 0))

    def test_two_heaps_beside_each_other(self):
        one, other = Heap(), Heap()
        one.put(1)
        self.assertEmpty(other)
        other.put(0)
        self.assertEqual((one.take(), other.take()), (1, 0))
        self.assertEmpty(one)
        self.assertEmpty(other)


if __name__ == "__main__":
    unittest.main()
