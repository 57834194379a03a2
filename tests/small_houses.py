"""Small houses for the tests of graphs, ills and ranks."""

from court_case import court_of

STAYING = "table " + "s" * 36


def no_dealer(cabins, waiting, rider, last):
    """A dealer of the asker's own that deals nobody to a lift."""
    return (-1, last)


def odd_dealer(cabins, waiting, rider, last):
    """A dealer of the asker's own: the lift behind the last one, but kind 1 only while others wait."""
    if rider[0] == 1 and len(waiting) < 2:
        return (-1, (last + 1) % len(cabins))
    return ((last + 1) % len(cabins), (last + 1) % len(cabins))


# The house, the rule, the dealer, and the kinds.
SMALL = (
    ("2 free; 0 1 1 plain", "sweep", "near", [(0, 1)]),
    ("2 way; 1 1 1 plain", "homing", "turns", [(0, 1)]),
    ("2 free 1; 0 1 1 plain", "sweep", "near", [(0, 1)]),
    ("3 way 1; 1 2 2 slow", "shuttle", "least", [(0, 1), (2, 0)]),
    ("2 free; 0 1 1 slow", "sweep", "near", [(0, 1), (1, 0)]),
    ("2 free; 0 1 1 hasty", STAYING, "near", [(1, 0), (0, 1)]),
    ("3 free; 0 1 1 plain", "sweep", "near", [(0, 1), (1, 0), (2, 0)]),
    ("3 way; 0 1 1 plain", "nearest", "near", [(0, 1), (1, 0), (2, 0)]),
    ("3 way; 0 2 1 slow", "nearest", "near", [(0, 1), (1, 0), (2, 0)]),
    ("3 way; 0 2 1 slow", "sweep", "near", [(0, 1), (1, 0), (2, 0)]),
    ("2 way; 0 1 1 plain; 1 1 1 hasty", "sweep", "near", [(0, 1), (1, 0)]),
    ("2 free; 0 1 1 plain; 1 1 1 plain", "homing", "turns", [(0, 1)]),
    ("3 free 2; 1 1 2 slow; 2 1 1 plain", "shuttle", "zone 1 0 1", [(0, 2), (0, 1)]),
    ("3 way; 0 1 1 plain; 2 1 1 plain", "nearest", "fixed 1 0", [(2, 0), (0, 2)]),
    ("2 free; 0 2 1 plain", "sweep", "near", [(0, 1), (0, 1), (1, 0)]),
    ("2 free; 0 1 1 plain; 1 1 1 plain", "sweep", odd_dealer, [(0, 1), (1, 0)]),
    ("2 way; 0 1 1 plain", "sweep", no_dealer, [(0, 1), (1, 0)]),
    ("2 free; 0 1 1 plain", "shuttle", "near", [(1, 0), (1, 0), (0, 1), (0, 1)]),
)


def small_houses():
    for text, rule, dealer, kinds in SMALL:
        yield court_of(text, rule, dealer), list(kinds)
