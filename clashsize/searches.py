"""A search for a point that obeys rules, unknown by unknown; nothing is checked here."""

from clashsize.knots import balanced, unit_rays
from clashsize.ratios import divided, dot, integers, least, minus, most
from clashsize.tables import inner


def point_below(rows, bounds, count):
    """A point of so many unknowns with row . point at most its bound for each row; None if there is none."""
    stages = _stages(rows, count)
    if any([dot(ray, bounds)[0] < 0 for ray in stages[0]]):
        return None
    point = ()
    for rays in stages[1:]:
        point = point + (_next_item(rays, rows, bounds, point),)
    return point


def direction_below(rows, bounds, count):
    """Likewise a direction, for bounds that are 0 or below; None if there is none."""
    point = point_below(rows, bounds, count)
    # A multiple from 1 on of a point obeys such bounds, too.
    return None if point is None else tuple(integers(point))


def _stages(rows, count):
    """For each number from 0 to count the least weights of rows that add up to 0 at the unknowns from it on."""
    stages = [unit_rays(len(rows))]
    for unknown in reversed(range(count)):
        stages = [balanced(stages[0], [row[unknown] for row in rows])] + stages
    return stages


def _next_item(rays, rows, bounds, point):
    """A number for the next unknown, behind those that have an item in the point.

    The rays add up to 0 at the unknowns behind it, so that they bound this number alone. That the numbers ahead obey
    what the stage ahead bounds leaves at least one number.
    """
    column = [row[len(point)] for row in rows]
    rests = [minus(bound, dot(row, point)) for row, bound in zip(rows, bounds)]
    lows = []
    highs = []
    for ray in rays:
        lead = inner(ray, column)
        if lead > 0:
            highs.append(divided(dot(ray, rests), (lead, 1)))
        elif lead < 0:
            lows.append(divided(dot(ray, rests), (lead, 1)))
    return _nearest_to_zero(most(lows), least(highs))


def _nearest_to_zero(low, high):
    """The fraction between two bounds, either of which can be None, that is nearest to 0."""
    if low is not None and low[0] > 0:
        return low
    if high is not None and high[0] < 0:
        return high
    return (0, 1)
