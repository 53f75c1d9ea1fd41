"""Lesser points: at each unknown the lesser item of two points; books whose worlds have them, and least points."""

from clashsize.errors import NotClosed
from clashsize.kinds import check_book, check_world, is_point, is_rule, obeys
from clashsize.knots import unit_rays
from clashsize.ratios import least, negative
from clashsize.tables import opposite
from clashsize.ways import top
from clashsize.worlds import bounded, check_has_points


def lesser_closed(book):
    """Whether in each world of the book the lesser point of any two of its points is in it."""
    check_book(book)
    return all([len(_places_below(kind)) < 2 for kind in book])


def greater_closed(book):
    """Whether in each world of the book the greater point of any two of its points is in it."""
    check_book(book)
    return all([len(_places_below(opposite(kind))) < 2 for kind in book])


def _places_below(kind):
    """The ascending list of the unknowns at which a kind has an item below 0."""
    return [at for at, item in enumerate(kind) if item < 0]


def lesser_pair(book):
    """A tuple of a rule and two points that obey it, the lesser point of which does not; None if there is none."""
    check_book(book)
    for number, kind in enumerate(book):
        places = _places_below(kind)
        if len(places) > 1:
            # The lesser point of these two has nothing but zeros.
            return ((number, (-1, 1)), _point_at(kind, places[0]), _point_at(kind, places[1]))
    return None


def _point_at(kind, place):
    """The point with zeros at all unknowns but one for which the kind adds up to -1, if its item there is below 0."""
    return tuple([(1, -item) if at == place else (0, 1) for at, item in enumerate(kind)])


def is_lesser_pair(book, value):
    """Whether any value is such a tuple."""
    check_book(book)
    if type(value) != tuple or len(value) != 3:
        return False
    rule, one, other = value
    if not is_rule(book, rule) or not is_point(book, one) or not is_point(book, other):
        return False
    lesser = tuple([least(items) for items in zip(one, other)])
    return obeys(book, [rule], one) and obeys(book, [rule], other) and not obeys(book, [rule], lesser)


def least_point(book, world):
    """The point in a world with the least value of each unknown; None if some unknown has no least value."""
    check_book(book)
    check_world(book, world)
    if not lesser_closed(book):
        raise NotClosed("a kind has two items below 0")
    check_has_points(book, world)
    kinds, bounds = bounded(book, world)
    tops = [top(kinds, bounds, opposite(unit)) for unit in unit_rays(len(book[0]))]
    return None if None in tops else tuple([negative(value) for value in tops])
