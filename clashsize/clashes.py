"""Told rules: whether they meet, and their smallest clashes."""

from clashsize.errors import TooLarge
from clashsize.kinds import check_book, check_rules, is_integers, world_of
from clashsize.knots import is_knot, knots
from clashsize.ratios import dot, integers
from clashsize.searches import point_below
from clashsize.worlds import bounded, broken, has_points

MOST_CLASHES = 400


def meet(book, rules):
    """Whether some point obeys all rules."""
    return has_points(book, world_of(book, rules))


def point_of(book, rules):
    """A point that obeys all rules; None if there is none."""
    kinds, bounds = bounded(book, world_of(book, rules))
    return point_below(kinds, bounds, len(book[0]))


def clash_number(book, rules):
    """How many sets of rules, told by their indexes, are smallest clashes."""
    check_book(book)
    check_rules(book, rules)
    return sum([len(_clashes_over(knot, rules)) for knot in knots(book)])


def clashes(book, rules):
    """The ascending list of all smallest clashes, each as a list of tuples (index, weight)."""
    check_book(book)
    check_rules(book, rules)
    found = []
    for knot in knots(book):
        found = found + _clashes_over(knot, rules)
        if len(found) > MOST_CLASHES:
            raise TooLarge(MOST_CLASHES)
    return sorted(found)


def _clashes_over(knot, rules):
    """The smallest clashes with one rule for each kind of a knot."""
    bounds = integers([bound for _, bound in rules])
    groups = []
    for number, weight in knot:
        groups.append([(index, weight) for index, rule in enumerate(rules) if rule[0] == number])
    if [] in groups:
        return []
    lows = [min([share * bounds[index] for index, share in group]) for group in groups]
    rest = sum(lows)
    found = [([], 0)]
    for group, low in zip(groups, lows):
        rest = rest - low
        longer = [(chosen + [item], total + item[1] * bounds[item[0]]) for chosen, total in found for item in group]
        # What the least bounds of the other kinds cannot bring below 0 is no part of a clash.
        found = [(chosen, total) for chosen, total in longer if total + rest < 0]
    return [sorted(chosen) for chosen, _ in found]


def clash_of(book, rules):
    """One of the smallest clashes; None if there is none."""
    world = world_of(book, rules)
    found = broken(book, world)
    if not found:
        return None
    return sorted([(rules.index((number, world[number])), weight) for number, weight in found[0]])


def is_clash(book, rules, value):
    """Whether any value is one of the smallest clashes."""
    check_book(book)
    check_rules(book, rules)
    if type(value) != list or not all([_is_weighted(rules, item) for item in value]):
        return False
    indexes = [index for index, _ in value]
    if indexes != sorted(set(indexes)):
        return False
    knot = sorted([(rules[index][0], weight) for index, weight in value])
    total = dot([weight for _, weight in value], [rules[index][1] for index in indexes])
    return is_knot(book, knot) and total[0] < 0


def _is_weighted(rules, value):
    """Whether any value is a tuple of the index of a rule and an integer."""
    return is_integers(value) and len(value) == 2 and 0 <= value[0] < len(rules)
