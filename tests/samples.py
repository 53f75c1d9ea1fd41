"""Books and values that several tests use, and a slow way to find knots, straight from the definition."""

import random
from fractions import Fraction
from functools import lru_cache
from itertools import combinations
from math import gcd, lcm

from clashsize.board import Board, GuardedCountingBoard
from clashsize.console import Console
from clashsize.errors import InvalidBook, InvalidRules, NoKnot

BOXES2 = [(-1, 0), (0, -1), (0, 1), (1, 0)]
THREE = [(-1, -1), (0, 1), (1, 0)]
TILTED = [(-1, -1), (-1, 1), (1, -1), (1, 1)]
LINE = [(-1,), (1,)]
ONE_WAY = [(1,)]
QUARTER = [(0, 1), (1, 0)]
BOXES5 = sorted([tuple([sign if at == unknown else 0 for at in range(5)]) for unknown in range(5) for sign in (-1, 1)])
# The least book with a knot of six kinds: five units and the opposite of their sum.
SIX = sorted([tuple([int(at == unknown) for at in range(5)]) for unknown in range(5)] + [(-1,) * 5])
BOOKS = [BOXES2, THREE, TILTED, LINE, ONE_WAY, QUARTER, BOXES5, SIX]
TWELVE = [(1, at) for at in range(12)]
# Signed points around a curve, rounded: twelve kinds of five unknowns with 112 knots, all of six kinds.
CURVE = [
    (-20, -17, -10, -10, -17), (-20, -17, 10, -10, 17), (-20, 17, -10, -10, 17), (-20, 17, 10, -10, -17),
    (-1, 0, -1, 1, 0), (-1, 0, 1, 1, 0), (1, -1, 0, 1, 0), (1, 1, 0, 1, 0),
    (20, -10, -17, -10, 17), (20, -10, 17, -10, -17), (20, 10, -17, -10, -17), (20, 10, 17, -10, 17),
]
LEAN = [(-1, 1), (0, -1), (1, 1)]
# A cross of the tilted book.
SIGN = ((1, 0), (0, 1), (3, 2, 1, 0))
SOME = [(0, 4), (3, 6), (5, 9), (8, 9), (20, 20)]
GUESTS = [[(0, (-1, 1))], [(1, (0, 1))], [(2, (0, 1))], [(1, (5, 1)), (2, (5, 1))]]
DIFFERENCES4 = sorted([tuple([int(at == one) - int(at == two) for at in range(4)])
                       for one in range(4) for two in range(4) if one != two])

HUGE = 10 ** 30 - 1


def deep(depth, core):
    """A list that holds a tuple that holds a list .. that holds the core."""
    for level in range(depth):
        core = [core] if level % 2 else (core,)
    return core


# Values that are no argument of any kind, but for great numbers and for None as a bound.
ODD_VALUES = [
    None, True, False, -1, 10 ** 59, -10 ** 59, "", "1,0", "[(1, 0)]", (), {}, {"book": [(1, 0)]}, {"a": {"b": [None]}},
    [[]], ((),), [()], ([],), [None, 0], (None,), [True], (True, False), ["(1, 0)"], ("1", "0"), [[-1, 0], [1, 0]],
    [(1, 0), None], [None, (1, 0)], [{}], ({},), (0, True), ("1/2", 1), [(0, 1), [1, 0]],
    [((0, 1), (1, 1))], ([0, 1], [1, 1]), deep(8, 1), deep(8, None), [7] * 1999, (7,) * 1999, [(0, (0, 1))] * 400,
    InvalidBook("a book"), InvalidRules(3), NoKnot("a knot"), [InvalidBook("a book")], (InvalidRules(None),),
    Board(LINE), GuardedCountingBoard(THREE), Console(), [Board(LINE)], (Board(LINE), Console()), [(0, Board(LINE))],
]


def random_book(source, unknowns, count, reach):
    """A book of so many kinds with items from -reach to reach."""
    kinds = {}
    while len(kinds) < count:
        kind = tuple([source.randint(-reach, reach) for _ in range(unknowns)])
        if gcd(*kind) == 1:
            kinds[kind] = True
    return sorted(kinds)


def random_books():
    """Books of all numbers of unknowns, in an order that is always the same."""
    source = random.Random(17)
    shapes = [(1, 1, 1), (1, 2, 1), (2, 3, 2), (2, 6, 3), (2, 12, 20), (3, 5, 1), (3, 8, 2), (3, 12, 1), (4, 6, 1),
              (4, 9, 2), (4, 12, 20), (5, 6, 1), (5, 8, 1), (5, 10, 2), (5, 12, 1)]
    return [random_book(source, *shape) for shape in shapes for _ in range(3)]


def as_fraction(item):
    return Fraction(item[0], item[1])


def pair_of(value):
    """A number in the form of the document."""
    value = Fraction(value)
    return (value.numerator, value.denominator)


def slow_dot(numbers, point):
    """The sum of the products of integers and the fractions of a point, as a Fraction."""
    return sum([number * as_fraction(item) for number, item in zip(numbers, point)], Fraction(0))


def random_fraction(source, reach=9):
    return pair_of(Fraction(source.randint(-reach, reach), source.randint(1, 9)))


def random_world(source, book):
    """A world whose bounds lie around those of a point, some of them just there, some None."""
    point = [random_fraction(source, 4) for _ in book[0]]
    steps = source.choice([[0], [0, 1], [0, 1, 2, 5], [-1, 0], [-1, 0, 1], [-2, 0, 3], [-2, -1], [Fraction(1, 2), 1]])
    left_out = source.choice([0, 0, 2, 5])
    world = []
    for kind in book:
        bound = pair_of(slow_dot(kind, point) + source.choice(steps))
        world.append(None if source.randint(0, 9) < left_out else bound)
    return world


def random_rules(source, book, count):
    """So many rules, several of one kind and equal ones among them."""
    return [(source.randrange(len(book)), pair_of(source.randint(-3, 4))) for _ in range(count)]


def rule_list(world):
    """The rules of a world."""
    return [(number, bound) for number, bound in enumerate(world) if bound is not None]


def slow_rank(rows):
    """How many rows are no sums of those ahead, by Gauss with fractions."""
    kept = []
    for row in rows:
        rest = [Fraction(item) for item in row]
        for lead, base in kept:
            rest = [item - rest[lead] * other for item, other in zip(rest, base)]
        if any(rest):
            lead = [item != 0 for item in rest].index(True)
            kept.append((lead, [item / rest[lead] for item in rest]))
    return len(kept)


def only_weights(kinds):
    """The positive weights, without a common divisor, with which the kinds add up to zeros; None unless they are unique.

    Gauss on the columns, without fractions: one free kind, which all others depend on.
    """
    rows = list(zip(*kinds))
    leads = []
    for place in range(len(kinds)):
        done = len(leads)
        below = [at for at in range(done, len(rows)) if rows[at][place] != 0]
        if below:
            rows[done], rows[below[0]] = rows[below[0]], rows[done]
            lead = rows[done]
            rows = [row if row is lead or row[place] == 0
                    else [item * lead[place] - row[place] * other for item, other in zip(row, lead)] for row in rows]
            leads.append(place)
    free = [place for place in range(len(kinds)) if place not in leads]
    if len(free) != 1:
        return None
    weights = [Fraction(1)] * len(kinds)
    for row, place in zip(rows, leads):
        weights[place] = Fraction(-row[free[0]], row[place])
    if min(weights) <= 0:
        return None
    bottom = lcm(*[weight.denominator for weight in weights])
    whole = [int(weight * bottom) for weight in weights]
    return [weight // gcd(*whole) for weight in whole]


def slow_knots(book):
    """All knots, found by a look at each set of kinds."""
    return [list(knot) for knot in kept_slow_knots(tuple(book))]


@lru_cache(maxsize=None)
def kept_slow_knots(book):
    """The same as tuples, kept, since several tests ask for the same books."""
    found = []
    for size in range(2, len(book[0]) + 2):
        for numbers in combinations(range(len(book)), size):
            weights = only_weights([book[number] for number in numbers])
            if weights is not None:
                found.append(tuple(zip(numbers, weights)))
    return sorted(found)
