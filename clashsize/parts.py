"""Parts of a book: free kinds, kinds that hang together, and directions that show them."""

from clashsize.kinds import check_book, is_integers, opposites
from clashsize.knots import clash_size, knots
from clashsize.searches import direction_below
from clashsize.tables import inner, reduced


def free_kinds(book):
    """The ascending list of the numbers of the kinds that are in no knot."""
    tied = {number: True for knot in knots(book) for number, _ in knot}
    return [number for number in range(len(book)) if number not in tied]


def falling(book):
    """A direction d with v . d below 0 for all kinds; None if there is none."""
    check_book(book)
    return direction_below(book, [(-1, 1)] * len(book), len(book[0]))


def sliding(book):
    """A direction d with v . d = 0 for all kinds that are not free and v . d below 0 for all free ones."""
    free = free_kinds(book)
    # Kinds in knots with v . d at most 0 have v . d = 0: their weighted sums are 0.
    bounds = [(-1 if number in free else 0, 1) for number in range(len(book))]
    return direction_below(book, bounds, len(book[0]))


def is_falling(book, value):
    """Whether any value is a direction d with v . d below 0 for all kinds."""
    check_book(book)
    return is_direction(book, value) and all([inner(kind, value) < 0 for kind in book])


def is_sliding(book, value):
    """Whether any value is a direction d with v . d = 0 for all kinds but the free ones, below 0 for these."""
    free = free_kinds(book)
    if not is_direction(book, value):
        return False
    steps = [inner(kind, value) for kind in book]
    return all([step < 0 if number in free else step == 0 for number, step in enumerate(steps)])


def is_direction(book, value):
    """Whether any value is a direction for the unknowns of a book."""
    return is_integers(value) and len(value) == len(book[0])


def components(book):
    """The ascending list of the ascending lists of numbers of kinds that hang together."""
    check_book(book)
    parts = []
    # In the reduced table each row ties the kind that leads it to all kinds that need it.
    for row in reduced(list(zip(*book))):
        part = [number for number, item in enumerate(row) if item != 0]
        apart = [other for other in parts if not _share(other, part)]
        touching = [other for other in parts if _share(other, part)]
        parts = apart + [sorted(set([number for other in touching + [part] for number in other]))]
    return sorted(parts)


def _share(part, other):
    """Whether two lists have a common item."""
    return any([number in other for number in part])


def pairs_enough(book):
    """Whether the clash size is at most 2."""
    return clash_size(book) <= 2


def is_two_sided(book):
    """Whether the opposite of each kind is in the book."""
    return opposites(book) == book
