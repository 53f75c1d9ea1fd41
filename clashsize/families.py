"""Families of books and numbers of knots that are known ahead."""

from math import comb, factorial
from clashsize.errors import InvalidArrows, InvalidFan, InvalidKind
from clashsize.kinds import MOST_KINDS, check_number, is_integers, is_kind
from clashsize.tables import common_divisor

MOST_IN_RINGS = 1000
MOST_IN_FANS = 400
GREATEST_IN_FANS = 1000000


def boxes(number):
    """The book of all units of so many unknowns."""
    check_number(number, 1, 5)
    return sorted([_marked(number, [(at, sign)]) for at in range(number) for sign in (-1, 1)])


def differences(number):
    """The book of all kinds with one 1, one -1 and else zeros, of so many unknowns."""
    check_number(number, 2, 4)
    places = range(number)
    return sorted([_marked(number, [(one, 1), (two, -1)]) for one in places for two in places if one != two])


def arrows(number, pairs):
    """The book of the kinds with 1 at i and -1 at j for each pair (i, j)."""
    check_number(number, 2, 5)
    if not _are_arrows(number, pairs):
        raise InvalidArrows("not an ascending list of 1 to 12 pairs of different unknowns")
    return sorted([_marked(number, [(one, 1), (two, -1)]) for one, two in pairs])


def _marked(count, marks):
    """A kind of so many unknowns with an item at each marked place and zeros at the others."""
    kind = [0] * count
    for place, item in marks:
        kind[place] = item
    return tuple(kind)


def _are_arrows(number, value):
    """Whether any value is arrows between so many unknowns."""
    if not _is_ascending_pairs(value, MOST_KINDS):
        return False
    return all([one != two and 0 <= one < number and 0 <= two < number for one, two in value])


def _is_ascending_pairs(value, most):
    """Whether any value is an ascending list of 1 to so many tuples of two integers."""
    if type(value) != list or not 1 <= len(value) <= most:
        return False
    if not all([is_integers(item) and len(item) == 2 for item in value]):
        return False
    return all([one < two for one, two in zip(value, value[1:])])


def ring_number(number, size):
    """How many knots of a size the book of all differences of so many unknowns would have."""
    check_number(number, 2, MOST_IN_RINGS)
    check_number(size, 2, None)
    if size > number:
        return 0
    return comb(number, size) * factorial(size - 1)


def ring_total(number):
    """How many knots the book of all differences of so many unknowns would have."""
    check_number(number, 2, MOST_IN_RINGS)
    return sum([ring_number(number, size) for size in range(2, number + 1)])


def box_size(kind):
    """The clash size of all units with this kind besides."""
    if not is_kind(kind):
        raise InvalidKind("not a kind")
    # The greatest knot is that of the kind and a unit for each of its items that is not 0.
    return 1 + len([item for item in kind if item != 0])


def fan_numbers(fan):
    """The tuple of how many pairs and how many threes of a fan are knots."""
    if not _is_fan(fan):
        raise InvalidFan("not an ascending list of 1 to 400 pairs without a common divisor")
    pairs = len([item for item in fan if (-item[0], -item[1]) in fan])
    # Three are no knot exactly if one of them, and just one, has both others to its left or opposite.
    loose = [comb(_number_behind(item, fan), 2) for item in fan]
    return (pairs // 2, comb(len(fan), 3) - sum(loose))


def _is_fan(value):
    """Whether any value is a fan."""
    if not _is_ascending_pairs(value, MOST_IN_FANS):
        return False
    return all([max(abs(one), abs(two)) <= GREATEST_IN_FANS and common_divisor((one, two)) == 1 for one, two in value])


def _number_behind(item, fan):
    """How many of a fan lie to the left of this one, a half turn included."""
    turns = [item[0] * other[1] - item[1] * other[0] for other in fan]
    steps = [item[0] * other[0] + item[1] * other[1] for other in fan]
    return len([turn for turn, step in zip(turns, steps) if turn > 0 or (turn == 0 and step < 0)])
