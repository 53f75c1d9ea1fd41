"""Hidden unknowns: what a world tells about the other ones, by sights."""

from clashsize.errors import InvalidHidden, InvalidPoint, InvalidSight
from clashsize.kinds import check_book, check_world, is_fraction, is_integers, is_world
from clashsize.knots import balances, is_balance, knots
from clashsize.ratios import at_most, dot, lowest, minus
from clashsize.searches import point_below
from clashsize.spans import greatest_size
from clashsize.tables import common_divisor
from clashsize.worlds import bounded, check_has_points, has_points, sum_of


def sights(book, hidden):
    """The ascending list of all sights."""
    check_book(book)
    _check_hidden(book, hidden)
    return balances(book, hidden)


def shown(book, hidden, sight):
    """The tuple of what a sight shows at the other unknowns."""
    check_book(book)
    _check_hidden(book, hidden)
    _check_sight(book, hidden, sight)
    return _shown_with_divisor(book, hidden, sight)[0]


def _shown_with_divisor(book, hidden, sight):
    """What a sight shows, and the number by which its sums are divided."""
    seen = _not_hidden(book, hidden)
    totals = [sum([weight * book[number][unknown] for number, weight in sight]) for unknown in seen]
    divisor = max(common_divisor(totals), 1)
    return tuple([total // divisor for total in totals]), divisor


def _not_hidden(book, hidden):
    """The ascending list of the unknowns that are not hidden."""
    return [unknown for unknown in range(len(book[0])) if unknown not in hidden]


def _shown_with_bound(book, world, hidden, sight):
    """What a sight shows, and its bound in a world, None if a kind has none."""
    what, divisor = _shown_with_divisor(book, hidden, sight)
    total = sum_of(sight, world)
    return what, None if total is None else lowest(total[0], total[1] * divisor)


def seen_kinds(book, hidden):
    """The ascending list of the unlike tuples that are shown, without that of zeros."""
    found = {_shown_with_divisor(book, hidden, sight)[0]: True for sight in sights(book, hidden)}
    return sorted([what for what in found if any(what)])


def seen_rules(book, world, hidden):
    """The ascending list of tuples (shown, bound) with the least bound of each tuple that is shown."""
    check_book(book)
    check_world(book, world)
    _check_hidden(book, hidden)
    check_has_points(book, world)
    found = {}
    for sight in balances(book, hidden):
        what, bound = _shown_with_bound(book, world, hidden, sight)
        if bound is not None and any(what) and (what not in found or at_most(bound, found[what])):
            found[what] = bound
    return sorted(list(found.items()))


def is_seen(book, world, hidden, point):
    """Whether a point of the other unknowns can be completed to a point in a world."""
    return completed(book, world, hidden, point) is not None


def completed(book, world, hidden, point):
    """A point in a world that has these items at the other unknowns; None if there is none."""
    check_book(book)
    check_world(book, world)
    _check_hidden(book, hidden)
    if not _is_seen_point(book, hidden, point):
        raise InvalidPoint("not a point of the unknowns that are not hidden")
    seen = _not_hidden(book, hidden)
    kinds, bounds = bounded(book, world)
    rests = [minus(bound, dot(_items(kind, seen), point)) for kind, bound in zip(kinds, bounds)]
    found = point_below([_items(kind, hidden) for kind in kinds], rests, len(hidden))
    if found is None:
        return None
    items = dict(zip(seen + hidden, point + found))
    return tuple([items[unknown] for unknown in range(len(book[0]))])


def _items(kind, unknowns):
    """The list of the items of a kind at some unknowns."""
    return [kind[unknown] for unknown in unknowns]


def seen_size(book, hidden):
    """The greatest size of a knot of the tuples that are shown; 0 if there is none."""
    return greatest_size(seen_kinds(book, hidden))


def barring(book, hidden, sight):
    """A world with points, and a point of the other unknowns that obeys all sights but this one."""
    if not any(shown(book, hidden, sight)):
        raise InvalidSight("a sight that shows zeros bars no point of a world with points")
    first = sight[0][0]
    # Every other sight, and every knot, has a kind that is not in this one, which outweighs its weight of the first.
    ties = balances(book, hidden) + knots(book)
    high = max([weight for tie in ties for number, weight in tie if number == first])
    world = [(high, 1)] * len(book)
    for number, _ in sight:
        world[number] = (0, 1)
    world[first] = (-1, 1)
    return world, ((0, 1),) * (len(book[0]) - len(hidden))


def is_barring(book, hidden, sight, value):
    """Whether any value is such a tuple."""
    check_book(book)
    _check_hidden(book, hidden)
    _check_sight(book, hidden, sight)
    if type(value) != tuple or len(value) != 2:
        return False
    world, point = value
    if not is_world(book, world) or not _is_seen_point(book, hidden, point) or not has_points(book, world):
        return False
    return [other for other in balances(book, hidden) if _bars(book, world, hidden, other, point)] == [sight]


def _bars(book, world, hidden, sight, point):
    """Whether a sight has a bound that a point of the other unknowns does not obey."""
    what, bound = _shown_with_bound(book, world, hidden, sight)
    return bound is not None and not at_most(dot(what, point), bound)


def _is_seen_point(book, hidden, value):
    """Whether any value is a point of the unknowns that are not hidden."""
    if type(value) != tuple or len(value) != len(book[0]) - len(hidden):
        return False
    return all([is_fraction(item) for item in value])


def _check_hidden(book, hidden):
    """InvalidHidden unless it is an ascending list of one or more unknowns of the book, but not of all."""
    count = len(book[0])
    if type(hidden) != list or not 1 <= len(hidden) < count or not is_integers(tuple(hidden)):
        raise InvalidHidden("not a list of one or more unknowns, but not of all")
    if hidden != [unknown for unknown in range(count) if unknown in hidden]:
        raise InvalidHidden("not an ascending list of unknowns of the book")


def _check_sight(book, hidden, sight):
    """InvalidSight unless it is a sight of the book for these hidden unknowns."""
    if not is_balance(book, hidden, sight):
        raise InvalidSight("not a sight of the book for these hidden unknowns")
