"""The greatest number of rows that can add up to zeros in just one way; nothing is checked here."""

from itertools import combinations
from clashsize.tables import determinant, inner, mask_of, rank_of, reduced


def greatest_size(rows):
    """The greatest size of a knot of some rows, none of them zeros; 0 if there is none.

    Those of rank + 1 rows are looked for first, then those in the planes that the rows span, and so on: there can be
    too many knots to list them all.
    """
    planes = {tuple(range(len(rows))): True}
    for rank in range(rank_of(rows), 0, -1):
        thinner = {}
        for plane in planes:
            inside = _turned([rows[at] for at in plane])
            cuts = _cuts(inside, rank - 1)
            if _has_full_knot(inside, cuts, rank):
                return rank + 1
            for above, below in cuts.values():
                thinner[tuple([at for place, at in enumerate(plane) if not (above | below) & 1 << place])] = True
        planes = thinner
    return 0


def _turned(rows):
    """Rows with as few items as their rank that add up to zeros just as these do."""
    columns = reduced(list(zip(*rows)))
    return list(zip(*columns))


def _cuts(rows, count):
    """For each choice of so many rows the masks of the rows on either side of the plane that they span.

    The choices whose rows span less are left out.
    """
    cuts = {}
    for choice in combinations(range(len(rows)), count):
        normal = _normal([rows[at] for at in choice])
        if any(normal):
            totals = [inner(normal, row) for row in rows]
            above = mask_of([at for at, total in enumerate(totals) if total > 0])
            cuts[choice] = (above, mask_of([at for at, total in enumerate(totals) if total < 0]))
    return cuts


def _normal(rows):
    """For rows with one item more than there are rows, what has the inner product 0 with all; zeros if they depend."""
    normal = []
    sign = 1
    for at in range(len(rows) + 1):
        normal.append(sign * determinant([row[:at] + row[at + 1:] for row in rows]))
        sign = -sign
    return normal


def _has_full_knot(rows, cuts, rank):
    """Whether some rows, as many as the rank, and another one are a knot."""
    for choice in combinations(range(len(rows)), rank):
        # From each of them the other one is beyond the plane of the rest.
        found = mask_of(list(range(len(rows))))
        for place, at in enumerate(choice):
            found = found & _beyond(cuts.get(choice[:place] + choice[place + 1:], (0, 0)), at)
        if found:
            return True
    return False


def _beyond(cut, at):
    """The mask of the rows that are on the other side of a cut than one row; 0 if that is on none."""
    above, below = cut
    if above & 1 << at:
        return below
    return above if below & 1 << at else 0
