"""Reckoning with rows of integers and tables of such rows; nothing is checked here."""

from math import gcd


def common_divisor(numbers):
    """The greatest common divisor of all numbers, 0 if there is nothing but zeros."""
    common = 0
    for number in numbers:
        common = gcd(common, number)
    return common


def inner(row, other):
    """The sum of the products of the items with the same index."""
    return sum([one * two for one, two in zip(row, other)])


def opposite(row):
    """The tuple with all signs changed."""
    return tuple([-item for item in row])


def mask_of(numbers):
    """An integer with one bit for each of the numbers."""
    return sum([1 << number for number in numbers])


def rank_of(rows):
    """The greatest number of linearly independent rows."""
    return len(reduced(rows))


def determinant(rows):
    """The determinant of a square tuple of rows."""
    if len(rows) == 0:
        return 1
    total = 0
    sign = 1
    for at, row in enumerate(rows):
        if row[0] != 0:
            minor = tuple([other[1:] for other in rows[:at] + rows[at + 1:]])
            total = total + sign * row[0] * determinant(minor)
        sign = -sign
    return total


def reduced(rows):
    """Independent rows with the same sums, each with a place where it alone has an item that is not 0."""
    done = []
    left = [list(row) for row in rows]
    while left:
        lead = left[0]
        left = left[1:]
        if any(lead):
            place = [at for at, item in enumerate(lead) if item != 0][0]
            done = [_without(row, lead, place) for row in done] + [lead]
            left = [_without(row, lead, place) for row in left]
    return done


def _without(row, lead, place):
    """The row with a zero at a place where the lead has another item, without a common divisor."""
    rest = [lead[place] * item - row[place] * other for item, other in zip(row, lead)]
    common = common_divisor(rest)
    return rest if common == 0 else [item // common for item in rest]
