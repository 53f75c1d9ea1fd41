"""Kinds, books, fractions, rules, worlds and points, and the checks of these parameters."""

from math import gcd
from clashsize.errors import InvalidBook, InvalidFraction, InvalidKind, InvalidMatrix, InvalidNumber
from clashsize.errors import InvalidNumbers, InvalidPoint, InvalidRules, InvalidWorld, TooLarge
from clashsize.ratios import at_most, dot
from clashsize.tables import common_divisor, determinant, inner, opposite, rank_of

MOST_UNKNOWNS = 5
MOST_KINDS = 12
MOST_RULES = 40
GREATEST_ITEM = 20


def is_integer(value):
    """Whether any value is an integer; True and False are none."""
    return type(value) == int


def is_integers(value):
    """Whether any value is a tuple of integers."""
    return type(value) == tuple and all([is_integer(item) for item in value])


def is_kind(value):
    """Whether any value is a kind."""
    if not is_integers(value) or not 1 <= len(value) <= MOST_UNKNOWNS:
        return False
    return _are_small(value) and common_divisor(value) == 1


def _are_small(numbers):
    """Whether all numbers can be items of a kind."""
    return all([abs(number) <= GREATEST_ITEM for number in numbers])


def is_book(value):
    """Whether any value is a book."""
    if type(value) != list or not 1 <= len(value) <= MOST_KINDS:
        return False
    if not all([is_kind(item) for item in value]):
        return False
    return all([len(one) == len(two) and one < two for one, two in zip(value, value[1:])])


def is_fraction(value):
    """Whether any value is a fraction."""
    if not is_integers(value) or len(value) != 2:
        return False
    return value[1] > 0 and gcd(value[0], value[1]) == 1


def is_rules(book, value):
    """Whether any value is rules of the book."""
    check_book(book)
    return _is_short_list(value) and all([is_rule(book, item) for item in value])


def _is_short_list(value):
    """Whether any value is a list of no more items than rules can have."""
    return type(value) == list and len(value) <= MOST_RULES


def is_rule(book, value):
    """Whether any value is a rule of a book."""
    if type(value) != tuple or len(value) != 2:
        return False
    return is_integer(value[0]) and 0 <= value[0] < len(book) and is_fraction(value[1])


def is_world(book, value):
    """Whether any value is a world of the book."""
    check_book(book)
    if type(value) != list or len(value) != len(book):
        return False
    return all([item is None or is_fraction(item) for item in value])


def is_point(book, value):
    """Whether any value is a point of the book."""
    check_book(book)
    if type(value) != tuple or len(value) != len(book[0]):
        return False
    return all([is_fraction(item) for item in value])


def check_book(book):
    """InvalidBook unless it is a book."""
    if not is_book(book):
        raise InvalidBook("not an ascending list of 1 to 12 kinds with as many unknowns")


def check_kind(book, kind):
    """InvalidKind unless it is a kind with as many unknowns as the book."""
    if not is_kind(kind) or len(kind) != len(book[0]):
        raise InvalidKind("not a kind with as many unknowns as the book")


def check_fraction(fraction):
    """InvalidFraction unless it is a fraction."""
    if not is_fraction(fraction):
        raise InvalidFraction("not a fraction in lowest terms with a positive denominator")


def check_numbers(book, numbers):
    """InvalidNumbers unless it is a tuple of as many integers as the book has unknowns."""
    if not is_integers(numbers) or len(numbers) != len(book[0]):
        raise InvalidNumbers("not a tuple of as many integers as the book has unknowns")


def check_point(book, point):
    """InvalidPoint unless it is a point of the book."""
    if not is_point(book, point):
        raise InvalidPoint("not a point of the book")


def check_world(book, world):
    """InvalidWorld unless it is a world of the book."""
    if not is_world(book, world):
        raise InvalidWorld("not a world of the book")


def check_rules(book, rules):
    """InvalidRules unless it is rules of the book."""
    if not _is_short_list(rules):
        raise InvalidRules(None)
    for index, item in enumerate(rules):
        if not is_rule(book, item):
            raise InvalidRules(index)


def check_number(number, low, high):
    """InvalidNumber unless it is an integer from low to high; there is no end if high is None."""
    if not is_integer(number) or number < low:
        raise InvalidNumber(f"not an integer from {low} on")
    if high is not None and number > high:
        raise InvalidNumber(f"above {high}")


def product(book, numbers, point):
    """The fraction numbers . point."""
    check_book(book)
    check_numbers(book, numbers)
    check_point(book, point)
    return dot(numbers, point)


def obeys(book, rules, point):
    """Whether a point obeys all rules."""
    check_book(book)
    check_rules(book, rules)
    check_point(book, point)
    return all([at_most(dot(book[number], point), bound) for number, bound in rules])


def is_in(book, world, point):
    """Whether a point is in a world."""
    check_book(book)
    check_world(book, world)
    check_point(book, point)
    bounded = [(kind, bound) for kind, bound in zip(book, world) if bound is not None]
    return all([at_most(dot(kind, point), bound) for kind, bound in bounded])


def rank(book):
    """The greatest number of linearly independent kinds."""
    check_book(book)
    return rank_of(book)


def world_of(book, rules):
    """The world with the least bound of each kind among the rules."""
    check_book(book)
    check_rules(book, rules)
    return least_bounds(book, rules)


def least_bounds(book, rules):
    """The same for any number of rules, without checks."""
    world = [None] * len(book)
    for number, bound in rules:
        if world[number] is None or at_most(bound, world[number]):
            world[number] = bound
    return world


def opposites(book):
    """The book of the opposites of the kinds."""
    check_book(book)
    return sorted([opposite(kind) for kind in book])


def mixed(book, matrix):
    """The book of the kinds, each one as a row times the matrix."""
    check_book(book)
    _check_matrix(book, matrix)
    columns = list(zip(*matrix))
    kinds = [tuple([inner(kind, column) for column in columns]) for kind in book]
    if not all([_are_small(kind) for kind in kinds]):
        raise TooLarge(GREATEST_ITEM)
    return sorted(kinds)


def _check_matrix(book, matrix):
    """InvalidMatrix unless it is a matrix for the unknowns of the book."""
    if type(matrix) != tuple or len(matrix) != len(book[0]):
        raise InvalidMatrix("not a tuple of as many rows as the book has unknowns")
    if not all([is_integers(row) and len(row) == len(matrix) for row in matrix]):
        raise InvalidMatrix("a row that is not a tuple of as many integers as unknowns")
    if abs(determinant(matrix)) != 1:
        raise InvalidMatrix("a determinant that is neither 1 nor -1")


def beside(book, other_book):
    """The book of the kinds of two books, on unknowns of their own."""
    check_book(book)
    check_book(other_book)
    ahead = (0,) * len(book[0])
    behind = (0,) * len(other_book[0])
    if len(ahead) + len(behind) > MOST_UNKNOWNS:
        raise TooLarge(MOST_UNKNOWNS)
    if len(book) + len(other_book) > MOST_KINDS:
        raise TooLarge(MOST_KINDS)
    return sorted([kind + behind for kind in book] + [ahead + kind for kind in other_book])
