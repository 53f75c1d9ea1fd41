"""Reckoning with rows of integers and tables of such rows; nothing is checked here."""

from math import gcd


def common_divisor(numbers):
    """The greatest common divisor of all numbers, 0 if there is nothing but zeros."""
    common = 0
    for number in numbers:
        common = gcd(common, number)
    return common


def inner(row, other):
    """The sum of the products of the items with the same index."""
    return sum([one * two for one, two in zip(row, other)])


def rank_of(rows):
    """The greatest number of linearly independent rows."""
    left = [list(row) for row in rows if any(row)]
    found = 0
    while left:
        found += 1
        left = _cleared(left[0], left[1:])
    return found


def _cleared(pivot, rows):
    """The rows with a zero where the pivot begins, without those that are zeros only."""
    place = [at for at, item in enumerate(pivot) if item != 0][0]
    out = []
    for row in rows:
        rest = [pivot[place] * item - row[place] * lead for item, lead in zip(row, pivot)]
        if any(rest):
            out.append(rest)
    return out


def determinant(rows):
    """The determinant of a square tuple of rows."""
    if len(rows) == 0:
        return 1
    total = 0
    sign = 1
    for at, row in enumerate(rows):
        if row[0] != 0:
            minor = tuple([other[1:] for other in rows[:at] + rows[at + 1:]])
            total = total + sign * row[0] * determinant(minor)
        sign = -sign
    return total
