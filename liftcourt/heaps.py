"""Heaps: things that are put in as they come, and taken out the least first."""

from liftcourt.errors import Empty


def swap(things, one, other):
    thing = things[one]
    things[one] = things[other]
    things[other] = thing


def rise(things):
    place = len(things) - 1
    while place > 0 and things[place] < things[(place - 1) // 2]:
        swap(things, place, (place - 1) // 2)
        place = (place - 1) // 2


def lesser_below(things, place):
    left = 2 * place + 1
    right = left + 1
    return right if right < len(things) and things[right] < things[left] else left


def sink(things):
    place = 0
    below = lesser_below(things, place)
    while below < len(things) and things[below] < things[place]:
        swap(things, place, below)
        place = below
        below = lesser_below(things, place)


# The thing at each place is not above those at the two places below it, twice its number and one or two more.
class Heap:
    def __init__(self):
        self.things = []

    def put(self, thing):
        self.things.append(thing)
        rise(self.things)

    def take(self):
        if len(self.things) == 0:
            raise Empty("the heap keeps nothing")
        # The last thing fills the gap that the least one leaves, and sinks to where it belongs.
        swap(self.things, 0, len(self.things) - 1)
        thing = self.things.pop()
        sink(self.things)
        return thing

    def size(self):
        return len(self.things)
