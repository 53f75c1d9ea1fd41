"""Knots of a book: the least sets of kinds that can clash, with their weights."""

from clashsize.errors import InvalidKnot
from clashsize.kinds import check_book, check_number, is_integers
from clashsize.tables import common_divisor, inner, mask_of, rank_of


def knots(book):
    """The ascending list of all knots."""
    check_book(book)
    return balances(book, list(range(len(book[0]))))


def balances(kinds, unknowns):
    """The ascending list of all least weights with which kinds add up to 0 at these unknowns.

    Each is a list of tuples (number, weight), in the form of a knot.
    """
    rays = unit_rays(len(kinds))
    for unknown in unknowns:
        rays = balanced(rays, [kind[unknown] for kind in kinds])
    return sorted([[(at, weight) for at, weight in enumerate(ray) if weight > 0] for ray in rays])


def unit_rays(count):
    """For each of so many kinds the weights that have 1 for it and 0 for the others."""
    return [[int(one == two) for two in range(count)] for one in range(count)]


def balanced(rays, column):
    """The least weights among all sums of rays that add up to 0 with the column."""
    totals = [inner(ray, column) for ray in rays]
    masks = [mask_of([at for at, weight in enumerate(ray) if weight > 0]) for ray in rays]
    out = [ray for ray, total in zip(rays, totals) if total == 0]
    for one, above in enumerate(totals):
        for two, below in enumerate(totals):
            if above > 0 > below and _are_neighbours(masks, masks[one] | masks[two]):
                out.append(_joined(rays[one], -below, rays[two], above))
    return out


def _are_neighbours(masks, both):
    """Whether no third ray has kinds of these two alone; the masks tell the kinds that have a weight.

    Only the sums of such two are least: any other sum has the kinds of a third one.
    """
    return len([mask for mask in masks if mask | both == both]) == 2


def _joined(ray, factor, other, other_factor):
    """The sum of two rays with these factors, without a common divisor."""
    weights = [factor * one + other_factor * two for one, two in zip(ray, other)]
    common = common_divisor(weights)
    return [weight // common for weight in weights]


def knot_numbers(book):
    """The numbers of knots of the sizes from 2 to the number of unknowns and 1."""
    sizes = [len(knot) for knot in knots(book)]
    return [sizes.count(size) for size in range(2, len(book[0]) + 2)]


def clash_size(book):
    """The greatest size of a knot, 0 if there is none."""
    return max([len(knot) for knot in knots(book)], default=0)


def is_knot(book, value):
    """Whether any value is a knot of the book."""
    check_book(book)
    return is_balance(book, list(range(len(book[0]))), value)


def is_balance(kinds, unknowns, value):
    """Whether any value is in the list of the balances of kinds at these unknowns."""
    if type(value) != list or not all([_is_weighted(kinds, item) for item in value]):
        return False
    numbers = [item[0] for item in value]
    weights = [item[1] for item in value]
    if numbers != sorted(set(numbers)) or common_divisor(weights) != 1:
        return False
    rows = [[kinds[number][unknown] for unknown in unknowns] for number in numbers]
    # Positive weights are the only ones of their kinds if just one kind depends on the others.
    return rank_of(rows) == len(rows) - 1 and not any([inner(weights, column) for column in zip(*rows)])


def check_knot(book, knot):
    """InvalidKnot unless it is a knot of the book."""
    if not is_knot(book, knot):
        raise InvalidKnot("not a knot of the book")


def _is_weighted(kinds, value):
    """Whether any value is a tuple of the number of a kind and a positive integer."""
    if not is_integers(value) or len(value) != 2:
        return False
    return 0 <= value[0] < len(kinds) and value[1] > 0


def greatest_knot(book):
    """The least of the knots with the greatest size; None if there is none."""
    return max(knots(book), key=len, default=None)


def knots_with(book, number):
    """The ascending list of the knots that have the kind with this number."""
    check_book(book)
    check_number(number, 0, len(book) - 1)
    return [knot for knot in knots(book) if number in [item[0] for item in knot]]
