"""Ways of a book to a goal: what follows from rules, and from how many of them."""

from clashsize.errors import Endless, NoWay
from clashsize.kinds import check_book, check_fraction, check_numbers, check_world, is_fraction, is_integer
from clashsize.knots import balances
from clashsize.parts import is_direction
from clashsize.ratios import at_most, dot, least, lowest, negative, plus, times
from clashsize.searches import direction_below, point_below
from clashsize.tables import inner, opposite, rank_of
from clashsize.worlds import bounded, check_has_points, has_points, is_rules_with_points, obey_all_but_own


def ways(book, numbers):
    """The ascending list of all ways to a goal."""
    check_book(book)
    check_numbers(book, numbers)
    return _ways_to(book, numbers)


def _ways_to(kinds, goal):
    """The ascending list of all ways of some kinds to a goal."""
    found = balances(kinds + [opposite(goal)], list(range(len(goal))))
    out = []
    for row in found:
        # The goal itself comes last, and what is ahead adds up to so many times the goal.
        number, share = row[-1]
        if number == len(kinds):
            out.append([(kind, lowest(weight, share)) for kind, weight in row[:-1]])
    return sorted(out)


def is_way(book, numbers, value):
    """Whether any value is a way to a goal."""
    check_book(book)
    check_numbers(book, numbers)
    if type(value) != list or not all([_is_factored(book, item) for item in value]):
        return False
    used = [number for number, _ in value]
    if used != sorted(set(used)) or rank_of([book[number] for number in used]) != len(used):
        return False
    factors = [factor for _, factor in value]
    sums = [dot([book[number][at] for number in used], factors) for at in range(len(numbers))]
    return sums == [(number, 1) for number in numbers]


def _is_factored(book, value):
    """Whether any value is a tuple of the number of a kind and a positive fraction."""
    if type(value) != tuple or len(value) != 2 or not is_integer(value[0]):
        return False
    return 0 <= value[0] < len(book) and is_fraction(value[1]) and value[1][0] > 0


def conclusion_size(book, numbers):
    """The greatest size of a way to a goal; None if there is none."""
    return max([len(way) for way in ways(book, numbers)], default=None)


def greatest(book, world, numbers):
    """The greatest goal . x of the points x in a world; None if it has no end."""
    check_book(book)
    check_world(book, world)
    check_numbers(book, numbers)
    check_has_points(book, world)
    kinds, bounds = bounded(book, world)
    return top(kinds, bounds, numbers)


def top(kinds, bounds, goal):
    """The greatest goal . x of the points x that obey the bounds, if there are such; None if it has no end."""
    return least([_way_sum(way, bounds) for way in _ways_to(kinds, goal)])


def _way_sum(way, bounds):
    """The sum of factor times bound."""
    total = (0, 1)
    for number, factor in way:
        total = plus(total, times(factor, bounds[number]))
    return total


def highest(book, world, numbers):
    """A point in the world with the greatest goal . x."""
    value = greatest(book, world, numbers)
    if value is None:
        raise Endless("the goal has no greatest value in the world")
    kinds, bounds = bounded(book, world)
    return point_below(kinds + [opposite(numbers)], bounds + [negative(value)], len(numbers))


def follows(book, world, numbers, bound):
    """Whether all points x in the world have goal . x at most bound."""
    check_book(book)
    check_world(book, world)
    check_numbers(book, numbers)
    check_fraction(bound)
    if not has_points(book, world):
        return True
    value = greatest(book, world, numbers)
    return value is not None and at_most(value, bound)


def rising(book, world, numbers):
    """A direction d with v . d at most 0 for each kind with a bound and goal . d above 0; None if there is none."""
    check_book(book)
    check_world(book, world)
    check_numbers(book, numbers)
    kinds, _ = bounded(book, world)
    return direction_below(kinds + [opposite(numbers)], [(0, 1)] * len(kinds) + [(-1, 1)], len(numbers))


def is_rising(book, world, numbers, value):
    """Whether any value is such a direction."""
    check_book(book)
    check_world(book, world)
    check_numbers(book, numbers)
    if not is_direction(book, value):
        return False
    kinds, _ = bounded(book, world)
    return inner(numbers, value) > 0 and all([inner(kind, value) <= 0 for kind in kinds])


def concluding(book, numbers):
    """As many rules as the conclusion size with a conclusion, and points that show that none can be left out."""
    way = max(ways(book, numbers), key=len, default=None)
    if way is None:
        raise NoWay("there is no way to the goal")
    kinds = [book[number] for number, _ in way]
    bounds = [(0, 1)] * (len(kinds) - 1) + [(-1, 1)]
    points = []
    for at in range(len(kinds)):
        points.append(point_below(kinds[:at] + kinds[at + 1:] + [opposite(numbers)], bounds, len(numbers)))
    return [(number, (0, 1)) for number, _ in way], points


def is_concluding(book, numbers, value):
    """Whether any value is a tuple of this form, with any number of rules."""
    check_book(book)
    check_numbers(book, numbers)
    if not is_rules_with_points(book, value):
        return False
    rules, points = value
    if not all([bound == (0, 1) for _, bound in rules]):
        return False
    if not all([dot(numbers, point)[0] > 0 for point in points]):
        return False
    # That the goal is at most 0 wherever all rules are obeyed needs a way of their kinds to it.
    concluded = _ways_to([book[number] for number, _ in rules], numbers) != []
    return concluded and obey_all_but_own(book, rules, points)
