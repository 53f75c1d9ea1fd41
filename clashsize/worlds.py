"""Worlds, bounds for the kinds of a book: which knots they break, and whether they have points."""

from clashsize.errors import NoKnot, NoPoints
from clashsize.kinds import check_book, check_world, is_point, is_rules, is_world, obeys
from clashsize.knots import check_knot, greatest_knot, knots
from clashsize.ratios import dot
from clashsize.searches import point_below


def knot_sum(book, knot, world):
    """The sum of a knot in a world; None if a bound is None."""
    check_book(book)
    check_knot(book, knot)
    check_world(book, world)
    return sum_of(knot, world)


def sum_of(knot, world):
    """The sum of weight times bound; None if a bound is None."""
    bounds = [world[number] for number, _ in knot]
    return None if None in bounds else dot([weight for _, weight in knot], bounds)


def knot_sums(book, world):
    """The ascending list of tuples (knot, sum) for the knots all of whose kinds have bounds."""
    check_book(book)
    check_world(book, world)
    found = [(knot, sum_of(knot, world)) for knot in knots(book)]
    return [(knot, total) for knot, total in found if total is not None]


def broken(book, world):
    """The ascending list of the knots that a world breaks."""
    return [knot for knot, total in knot_sums(book, world) if total[0] < 0]


def breaks_some(ties, world):
    """Whether a world breaks one of some knots."""
    sums = [sum_of(knot, world) for knot in ties]
    return any([total is not None and total[0] < 0 for total in sums])


def has_points(book, world):
    """Whether some point is in a world."""
    return broken(book, world) == []


def check_has_points(book, world):
    """NoPoints, behind the errors of the parameters, unless some point is in the world."""
    if not has_points(book, world):
        raise NoPoints("no point is in the world")


def bounded(book, world):
    """The list of the kinds with a bound, and the list of their bounds."""
    found = [(kind, bound) for kind, bound in zip(book, world) if bound is not None]
    return [kind for kind, _ in found], [bound for _, bound in found]


def breaking(book, knot):
    """A world without None that breaks this knot and no other one."""
    check_book(book)
    check_knot(book, knot)
    first = knot[0][0]
    # Every other knot has a kind that is not in this one, which outweighs its weight of the first kind.
    high = max([weight for other in knots(book) for number, weight in other if number == first])
    world = [(high, 1)] * len(book)
    for number, _ in knot:
        world[number] = (0, 1)
    world[first] = (-1, 1)
    return world


def breaks_alone(book, knot, value):
    """Whether any value is a world without None that breaks this knot and no other one."""
    check_book(book)
    check_knot(book, knot)
    return is_world(book, value) and None not in value and broken(book, value) == [knot]


def forcing(book):
    """A forcing world with as many rules as the clash size."""
    knot = greatest_knot(book)
    if knot is None:
        raise NoKnot("the book has no knot")
    kinds = [book[number] for number, _ in knot]
    bounds = [(-1, 1)] + [(0, 1)] * (len(knot) - 1)
    points = []
    for at in range(len(knot)):
        points.append(point_below(kinds[:at] + kinds[at + 1:], bounds[:at] + bounds[at + 1:], len(book[0])))
    return [(number, bound) for (number, _), bound in zip(knot, bounds)], points


def is_forcing(book, value):
    """Whether any value is a forcing world of the book."""
    check_book(book)
    if not is_rules_with_points(book, value):
        return False
    rules, points = value
    world = [None] * len(book)
    for number, bound in rules:
        world[number] = bound
    return obey_all_but_own(book, rules, points) and not has_points(book, world)


def is_rules_with_points(book, value):
    """Whether any value is a tuple (rules, points) of rules of unlike kinds and as many points."""
    if type(value) != tuple or len(value) != 2 or type(value[1]) != list:
        return False
    rules, points = value
    if not is_rules(book, rules) or len(points) != len(rules):
        return False
    unlike = len(set([number for number, _ in rules])) == len(rules)
    return unlike and all([is_point(book, point) for point in points])


def obey_all_but_own(book, rules, points):
    """Whether each point obeys all rules but the one with its index, which it can obey or not."""
    return all([obeys(book, rules[:at] + rules[at + 1:], point) for at, point in enumerate(points)])
