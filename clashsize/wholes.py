"""Whole points: how many rules must be looked at together if all unknowns are integers."""

from itertools import combinations
from clashsize.errors import InvalidCross, TooLarge, Undecided
from clashsize.kinds import check_book, check_world, is_integers
from clashsize.knots import clash_size
from clashsize.ratios import integers, lowest
from clashsize.tables import determinant, inner, opposite
from clashsize.worlds import forcing

QUARTERS = ((1, 1), (1, -1), (-1, 1), (-1, -1))


def is_level(book):
    """Whether all square parts of the table of the kinds have determinants 0, 1 or -1."""
    check_book(book)
    return all([_is_level_at(book, size) for size in range(1, len(book[0]) + 1)])


def _is_level_at(book, size):
    """The same for the square parts of one size."""
    for places in combinations(range(len(book[0])), size):
        rows = [tuple([kind[place] for place in places]) for kind in book]
        for chosen in combinations(rows, size):
            if abs(determinant(chosen)) > 1:
                return False
    return True


def whole_size(book):
    """The greatest number of rules that clash for whole points, but would not without any one of them."""
    check_book(book)
    if len(book[0]) == 2:
        return clash_size(book) if cross(book) is None else 4
    if not is_level(book):
        raise Undecided("a book with three unknowns or more that is not level")
    return clash_size(book)


def cross(book):
    """A cross of a book with two unknowns; None if there is none."""
    check_book(book)
    if len(book[0]) != 2:
        raise TooLarge(2)
    for kind, other in combinations(book, 2):
        for one, two in bases_between(kind, other):
            quarters = [_in_quarter(book, one, two, quarter) for quarter in QUARTERS]
            if [] not in quarters:
                return (one, two, tuple([numbers[0] for numbers in quarters]))
    return None


def bases_between(kind, other):
    """All bases (a, b) of the whole points with kind . a, kind . b and other . a above 0 and other . b below 0.

    Each next one has the sum of a and b in the place of one of them; there is none that is not reached so.
    """
    along = (-kind[1], kind[0])
    turn = inner(other, along)
    if turn < 0:
        along = opposite(along)
    if turn == 0:
        return []
    unit = _unit_for(kind)
    one = _stepped(unit, along, -(inner(other, unit) // abs(turn)))
    two = _stepped(one, along, -1)
    found = []
    while inner(other, one) > 0 > inner(other, two):
        found.append((one, two))
        between = _stepped(one, two, 1)
        if inner(other, between) > 0:
            one = between
        else:
            two = between
    return found


def _unit_for(kind):
    """Two integers x with kind . x = 1."""
    left = (kind[0], 1, 0)
    right = (kind[1], 0, 1)
    while right[0] != 0:
        many = left[0] // right[0]
        left, right = right, tuple([item - many * other for item, other in zip(left, right)])
    # What is left is the common divisor of both items, 1 or -1.
    return (left[0] * left[1], left[0] * left[2])


def _stepped(point, step, many):
    """A point and so many steps."""
    return (point[0] + many * step[0], point[1] + many * step[1])


def _in_quarter(book, one, two, quarter):
    """The numbers of the kinds whose products with both have the signs of a quarter."""
    return [number for number, kind in enumerate(book)
            if inner(kind, one) * quarter[0] > 0 and inner(kind, two) * quarter[1] > 0]


def is_cross(book, value):
    """Whether any value is a cross of the book."""
    check_book(book)
    if type(value) != tuple or len(book[0]) != 2:
        return False
    if not all([is_integers(item) for item in value]) or [len(item) for item in value] != [2, 2, 4]:
        return False
    one, two, numbers = value
    if abs(determinant((one, two))) != 1:
        return False
    return all([number in _in_quarter(book, one, two, quarter) for number, quarter in zip(numbers, QUARTERS)])


def rounded(book, world):
    """The world with all bounds rounded down to integers."""
    check_book(book)
    check_world(book, world)
    return [None if bound is None else (bound[0] // bound[1], 1) for bound in world]


def whole_forcing(book):
    """As many rules as the whole size that clash for whole points, and whole points that obey all but one each."""
    # Without a cross a book with two unknowns has a whole size of at most 3.
    if whole_size(book) == 4 and len(book[0]) == 2:
        sign = cross(book)
        return cross_rules(book, sign), [_as_point(corner) for corner in _corners(sign)]
    rules, points = forcing(book)
    # The bounds of these rules are integers, at most 0: a multiple from 1 on of a point that obeys them does, too.
    return rules, [_as_point(integers(point)) for point in points]


def _as_point(numbers):
    """The point with these integers."""
    return tuple([(number, 1) for number in numbers])


def _corners(sign):
    """The corners with the greatest products with the kinds of a cross, in their order."""
    one, two, _ = sign
    return [_stepped(one, two, 1), one, two, (0, 0)]


def cross_rules(book, sign):
    """The four rules of the kinds of a cross that no whole point obeys together."""
    _check_cross(book, sign)
    return [(number, (inner(book[number], corner) - 1, 1)) for number, corner in zip(sign[2], _corners(sign))]


def middle(book, sign):
    """A point that obeys these four rules."""
    _check_cross(book, sign)
    return tuple([lowest(item, 2) for item in _corners(sign)[0]])


def _check_cross(book, sign):
    """InvalidBook, then InvalidCross, unless it is a cross of the book."""
    if not is_cross(book, sign):
        raise InvalidCross("not a cross of the book")
