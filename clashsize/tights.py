"""Tight worlds: what the points of a world have in common, and which of its bounds are idle."""

from clashsize.errors import NoInside
from clashsize.kinds import check_book, check_world
from clashsize.knots import balances
from clashsize.ratios import at_most, divided, least, minus, negative, plus
from clashsize.searches import point_below
from clashsize.tables import opposite, rank_of
from clashsize.ways import top
from clashsize.worlds import bounded, check_has_points, has_points, knot_sums


def tight(book, world):
    """The world with the least bound of each kind that all points of a world obey."""
    check_has_points(book, world)
    kinds, bounds = bounded(book, world)
    return [top(kinds, bounds, kind) for kind in book]


def same_points(book, world, other):
    """Whether two worlds have the same points."""
    return parting(book, world, other) is None


def parting(book, world, other):
    """A point that is in just one of two worlds; None if there is none."""
    check_book(book)
    check_world(book, world)
    check_world(book, other)
    point = _point_outside(book, world, other)
    return _point_outside(book, other, world) if point is None else point


def _point_outside(book, world, other):
    """A point in a world that is not in the other one; None if there is none."""
    for number, bound in enumerate(other):
        if bound is not None:
            point = _point_beyond(book, world, number, bound)
            if point is not None:
                return point
    return None


def _point_beyond(book, world, number, bound):
    """A point in a world that does not obey the rule (number, bound); None if there is none."""
    kinds, bounds = bounded(book, world)
    value = top(kinds, bounds, book[number])
    if value is None:
        value = plus(bound, (1, 1))
    if at_most(value, bound):
        return None
    # If the world has no points, none is found with this rule either.
    return point_below(kinds + [opposite(book[number])], bounds + [negative(value)], len(book[0]))


def covering(book, world, other):
    """The tight world with the least bounds that has all points of two worlds."""
    check_book(book)
    check_world(book, world)
    check_world(book, other)
    if not has_points(book, world):
        return tight(book, other)
    if not has_points(book, other):
        return tight(book, world)
    return [_greater(one, two) for one, two in zip(tight(book, world), tight(book, other))]


def _greater(bound, other):
    """The greater one of two bounds, None if one of them is None."""
    if bound is None or other is None:
        return None
    return other if at_most(bound, other) else bound


def idle(book, world):
    """The ascending list of the numbers of the kinds with a bound without which the world has the same points."""
    check_book(book)
    check_world(book, world)
    found = []
    for number, bound in enumerate(world):
        if bound is not None:
            looser = world[:number] + [None] + world[number + 1:]
            if _point_beyond(book, looser, number, bound) is None:
                found.append(number)
    return found


def has_inside(book, world):
    """Whether some point obeys all rules of a world with less than the bound."""
    return all([total[0] > 0 for _, total in knot_sums(book, world)])


def inside_point(book, world):
    """A point that obeys all rules of a world with less than the bound."""
    _check_inside(book, world)
    # Bounds that are less by this margin still break no knot.
    shares = [divided(total, (sum([weight for _, weight in knot]), 1)) for knot, total in knot_sums(book, world)]
    margin = least(shares + [(1, 1)])
    kinds, bounds = bounded(book, world)
    return point_below(kinds, [minus(bound, margin) for bound in bounds], len(book[0]))


def _check_inside(book, world):
    """NoPoints, then NoInside, unless some point obeys all rules with less than the bound."""
    check_has_points(book, world)
    if not has_inside(book, world):
        raise NoInside("no point obeys all rules with less than the bound")


def core(book, world):
    """The least list of the numbers of kinds whose rules alone have the same points."""
    _check_inside(book, world)
    needless = idle(book, world)
    return [number for number, bound in enumerate(world) if bound is not None and number not in needless]


def dimension(book, world):
    """The dimension of the space of the points, -1 if there are none."""
    if not has_points(book, world):
        return -1
    # The kinds of these knots are those whose rules all points meet with equality.
    even = [knot for knot, total in knot_sums(book, world) if total[0] == 0]
    return len(book[0]) - rank_of([book[number] for knot in even for number, _ in knot])


def is_bounded(book, world):
    """Whether all unknowns have a least and a greatest value in a world."""
    check_has_points(book, world)
    kinds, _ = bounded(book, world)
    tied = {number: True for knot in balances(kinds, list(range(len(book[0])))) for number, _ in knot}
    # If all kinds are in knots, the world can only go on along directions that change none of their sums.
    return len(tied) == len(kinds) and rank_of(kinds) == len(book[0])
