"""A slow judge: the unknowns of rules are eliminated one by one, with Fractions.

A row is a tuple (numbers, bound, whether the sum must be less than the bound).
"""

from fractions import Fraction

from samples import as_fraction


def rows_of(book, world, is_strict=False):
    """The rows of the rules of a world."""
    return [(kind, as_fraction(bound), is_strict) for kind, bound in zip(book, world) if bound is not None]


def rule_rows(book, rules):
    """The rows of rules."""
    return [(book[number], as_fraction(bound), False) for number, bound in rules]


def without(rows, unknown):
    """What rows (numbers, bound, strict, mask of the rows at first) say of the other unknowns."""
    made = [row for row in rows if row[0][unknown] == 0]
    for numbers, bound, strict, mask in rows:
        for others, limit, harsh, cover in rows:
            up, down = numbers[unknown], -others[unknown]
            if up > 0 and down > 0:
                sums = [down * one + up * two for one, two in zip(numbers, others)]
                made.append((sums, down * bound + up * limit, strict or harsh, mask | cover))
    # A row that needs all that another one needs, and more, is a sum of others.
    kept = []
    for row in sorted(made, key=lambda item: item[3].bit_count()):
        if not any(other[3] & row[3] == other[3] for other in kept):
            kept.append(row)
    return kept


def left_for(rows, unknowns):
    """What the rows say of some unknowns alone; the others have zeros there."""
    rows = [([Fraction(item) for item in numbers], bound, strict, 1 << at)
            for at, (numbers, bound, strict) in enumerate(rows)]
    count = len(rows[0][0]) if rows else 0
    for unknown in range(count):
        if unknown not in unknowns:
            rows = without(rows, unknown)
    return rows


def slow_meet(rows):
    """Whether some point obeys all rows."""
    return not any(bound < 0 or (bound == 0 and strict) for _, bound, strict, _ in left_for(rows, []))


def limits(rows, unknown):
    """The least and the greatest value of an unknown in rows that meet; None for no end."""
    lows = []
    highs = []
    for numbers, bound, _, _ in left_for(rows, [unknown]):
        if numbers[unknown] > 0:
            highs.append(bound / numbers[unknown])
        elif numbers[unknown] < 0:
            lows.append(bound / numbers[unknown])
    return max(lows, default=None), min(highs, default=None)


def slow_greatest(rows, goal):
    """The greatest goal . x in rows that meet; None for no end."""
    if not any(goal):
        return Fraction(0)
    # One unknown more, which is at most goal . x.
    longer = [(tuple(numbers) + (0,), bound, strict) for numbers, bound, strict in rows]
    return limits(longer + [(tuple(-item for item in goal) + (1,), Fraction(0), False)], len(goal))[1]
