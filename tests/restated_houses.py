"""Point 7 once more, told from the document's words and not by the program."""

import re


def expected_house(text):
    """The house that a text writes, or None: by patterns and bounds, without the program."""
    number = "(0|[1-9][0-9]{0,8})"
    head, *lifts = text.split(";")
    if not re.fullmatch(number + " (free|way)( " + number + ")*", head) or not 1 <= len(lifts) <= 3:
        return None
    if not all(re.fullmatch(" " + " ".join([number] * 3) + " (plain|hasty|slow)", part) for part in lifts):
        return None
    floors, sort, *locked = head.split(" ")
    locked = [int(word) for word in locked]
    made = [part.split(" ")[1:] for part in lifts]
    made = tuple((int(start), int(room), int(turns), kind) for start, room, turns, kind in made)
    if int(floors) not in range(2, 9) or locked != sorted(set(locked)):
        return None
    if not all(floor in range(1, int(floors)) for floor in locked):
        return None
    for start, room, turns, kind in made:
        if start not in range(int(floors)) or room not in range(1, 7) or turns not in range(1, 5):
            return None
    return (int(floors), made, sum(2 ** floor for floor in locked), sort)
