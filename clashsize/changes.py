"""What changes if a kind is added to a book, or kinds are left out."""

from itertools import combinations
from clashsize.errors import TooLarge
from clashsize.kinds import check_book, check_kind, check_number, is_kind
from clashsize.knots import balances, clash_size, knots
from clashsize.parts import is_direction
from clashsize.searches import direction_below
from clashsize.tables import inner, mask_of

MOST_REACH = 5
MOST_TUPLES = 130


def size_with(book, kind):
    """The clash size of the kinds of the book and this one."""
    check_book(book)
    check_kind(book, kind)
    return max(clash_size(book), _greatest_new_size(book, kind))


def adds_knots(book, kind):
    """How many knots the kinds of the book and this one have more."""
    check_book(book)
    check_kind(book, kind)
    return len(_new_knots(book, kind))


def _new_knots(book, kind):
    """The knots of the kinds of the book and this one, as the last one, that the book has not."""
    if kind in book:
        return []
    found = balances(book + [kind], list(range(len(kind))))
    return [knot for knot in found if knot[-1][0] == len(book)]


def _greatest_new_size(book, kind):
    """The greatest size of a knot that the kind adds, 0 if it adds none."""
    return max([len(knot) for knot in _new_knots(book, kind)], default=0)


def blocking(book, kind):
    """A direction d with v . d at most 0 for all kinds of the book and kind . d below 0; None if there is none."""
    check_book(book)
    check_kind(book, kind)
    return direction_below(book + [kind], [(0, 1)] * len(book) + [(-1, 1)], len(kind))


def is_blocking(book, kind, value):
    """Whether any value is such a direction."""
    check_book(book)
    check_kind(book, kind)
    if not is_direction(book, value):
        return False
    return inner(kind, value) < 0 and all([inner(other, value) <= 0 for other in book])


def raising(book, reach):
    """The ascending list of all kinds with items from -reach to reach with which the clash size is greater."""
    check_book(book)
    check_number(reach, 1, MOST_REACH)
    found = [()]
    for _ in book[0]:
        found = [ahead + (item,) for ahead in found for item in range(-reach, reach + 1)]
        if len(found) > MOST_TUPLES:
            raise TooLarge(MOST_TUPLES)
    size = clash_size(book)
    return [kind for kind in found if is_kind(kind) and _greatest_new_size(book, kind) > size]


def needed_kinds(book):
    """The ascending list of the numbers of the kinds without each of which the clash size is less."""
    masks = _masks_above(book, clash_size(book) - 1)
    # Without knots there is no mask, and no kind is needed.
    return [number for number in range(len(book)) if masks and _meets_all(1 << number, masks)]


def fewest_out(book, size):
    """The ascending list of all ascending lists of as few kinds as possible without which the size is at most this."""
    check_book(book)
    check_number(size, 0, None)
    masks = _masks_above(book, size)
    found = []
    for count in range(len(book) + 1):
        if not found:
            choices = list(combinations(range(len(book)), count))
            found = [list(choice) for choice in choices if _meets_all(mask_of(choice), masks)]
    return found


def _masks_above(book, size):
    """For each knot above a size an integer with one bit for each of its kinds."""
    return [mask_of([number for number, _ in knot]) for knot in knots(book) if len(knot) > size]


def _meets_all(mask, others):
    """Whether a mask has a bit in common with each of the others."""
    return all([mask & other != 0 for other in others])
