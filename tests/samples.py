"""Books and values that several tests use, and a slow way to find knots, straight from the definition."""

import random
from fractions import Fraction
from functools import lru_cache
from itertools import combinations
from math import gcd, lcm

from clashsize.errors import InvalidBook, InvalidRules, NoKnot

BOXES2 = [(-1, 0), (0, -1), (0, 1), (1, 0)]
THREE = [(-1, -1), (0, 1), (1, 0)]
TILTED = [(-1, -1), (-1, 1), (1, -1), (1, 1)]
LINE = [(-1,), (1,)]
ONE_WAY = [(1,)]
QUARTER = [(0, 1), (1, 0)]
BOXES5 = sorted([tuple([sign if at == unknown else 0 for at in range(5)]) for unknown in range(5) for sign in (-1, 1)])
# The least book with a knot of six kinds: five units and the opposite of their sum.
SIX = sorted([tuple([int(at == unknown) for at in range(5)]) for unknown in range(5)] + [(-1,) * 5])
BOOKS = [BOXES2, THREE, TILTED, LINE, ONE_WAY, QUARTER, BOXES5, SIX]

HUGE = 10 ** 30 - 1


def deep(depth, core):
    """A list that holds a tuple that holds a list .. that holds the core."""
    for level in range(depth):
        core = [core] if level % 2 else (core,)
    return core


# Values that are no argument of any kind that kinds.py and knots.py take.
ODD_VALUES = [
    None, True, False, -1, 10 ** 59, -10 ** 59, "", "1,0", "[(1, 0)]", (), {}, {"book": [(1, 0)]}, {"a": {"b": [None]}},
    [[]], ((),), [()], ([],), [None, 0], (None,), [True], (True, False), ["(1, 0)"], ("1", "0"), [[-1, 0], [1, 0]],
    [(1, 0), None], [None, (1, 0)], [{}], ({},), (0, True), ("1/2", 1), [(0, 1), [1, 0]],
    [((0, 1), (1, 1))], ([0, 1], [1, 1]), deep(8, 1), deep(8, None), [7] * 1999, (7,) * 1999, [(0, (0, 1))] * 400,
    InvalidBook("a book"), InvalidRules(3), NoKnot("a knot"), [InvalidBook("a book")], (InvalidRules(None),),
]


def random_book(source, unknowns, count, reach):
    """A book of so many kinds with items from -reach to reach."""
    kinds = {}
    while len(kinds) < count:
        kind = tuple([source.randint(-reach, reach) for _ in range(unknowns)])
        if gcd(*kind) == 1:
            kinds[kind] = True
    return sorted(kinds)


def random_books():
    """Books of all numbers of unknowns, in an order that is always the same."""
    source = random.Random(17)
    shapes = [(1, 1, 1), (1, 2, 1), (2, 3, 2), (2, 6, 3), (2, 12, 20), (3, 5, 1), (3, 8, 2), (3, 12, 1), (4, 6, 1),
              (4, 9, 2), (4, 12, 20), (5, 6, 1), (5, 8, 1), (5, 10, 2), (5, 12, 1)]
    return [random_book(source, *shape) for shape in shapes for _ in range(3)]


def only_weights(kinds):
    """The positive weights, without a common divisor, with which the kinds add up to zeros; None unless they are unique.

    Gauss on the columns: one free kind, which all others depend on.
    """
    rows = [[Fraction(kind[unknown]) for kind in kinds] for unknown in range(len(kinds[0]))]
    leads = []
    for place in range(len(kinds)):
        below = [at for at in range(len(leads), len(rows)) if rows[at][place] != 0]
        if below:
            done = len(leads)
            rows[done], rows[below[0]] = rows[below[0]], rows[done]
            rows[done] = [item / rows[done][place] for item in rows[done]]
            for at in range(len(rows)):
                if at != done:
                    rows[at] = [item - rows[at][place] * lead for item, lead in zip(rows[at], rows[done])]
            leads.append(place)
    free = [place for place in range(len(kinds)) if place not in leads]
    if len(free) != 1:
        return None
    weights = [Fraction(1)] * len(kinds)
    for at, place in enumerate(leads):
        weights[place] = -rows[at][free[0]]
    if min(weights) <= 0:
        return None
    bottom = lcm(*[weight.denominator for weight in weights])
    whole = [int(weight * bottom) for weight in weights]
    return [weight // gcd(*whole) for weight in whole]


def slow_knots(book):
    """All knots, found by a look at each set of kinds."""
    return [list(knot) for knot in kept_slow_knots(tuple(book))]


@lru_cache(maxsize=None)
def kept_slow_knots(book):
    """The same as tuples, kept, since several tests ask for the same books."""
    found = []
    for size in range(2, len(book[0]) + 2):
        for numbers in combinations(range(len(book)), size):
            weights = only_weights([book[number] for number in numbers])
            if weights is not None:
                found.append(tuple(zip(numbers, weights)))
    return sorted(found)
