"""Parties, lists of rules that are kept or left out together: which of them meet, and which clash."""

from itertools import combinations
from clashsize.errors import InvalidParties
from clashsize.kinds import check_book, is_rule, least_bounds
from clashsize.knots import knots
from clashsize.searches import point_below
from clashsize.tights import tight
from clashsize.worlds import bounded, breaks_some, has_points

MOST_PARTIES = 8
MOST_IN_PARTY = 12


def all_meet(book, parties):
    """Whether all parties meet."""
    _check_parties(book, parties)
    return has_points(book, joined(book, parties))


def joined(book, parties):
    """The world with the least bounds of all rules of some parties, which are not checked."""
    return least_bounds(book, [rule for party in parties for rule in party])


def party_clashes(book, parties):
    """The ascending list of all ascending lists of indexes of parties that clash, but would not without any one."""
    _check_parties(book, parties)
    return smallest_clashes(book, parties)


def smallest_clashes(book, parties):
    """The same without checks."""
    ties = knots(book)
    found = []
    if not breaks_some(ties, joined(book, parties)):
        return found
    for size in range(1, len(parties) + 1):
        for choice in combinations(range(len(parties)), size):
            world = joined(book, [parties[index] for index in choice])
            if not _has_one_of(choice, found) and breaks_some(ties, world):
                found.append(list(choice))
    return sorted(found)


def _has_one_of(choice, parts):
    """Whether a choice has all items of one of the parts."""
    return any([all([item in choice for item in part]) for part in parts])


def crowds(book, parties):
    """The ascending list of all ascending lists of indexes of the crowds with as many parties as possible."""
    _check_parties(book, parties)
    parts = smallest_clashes(book, parties)
    found = []
    for size in range(len(parties) + 1):
        choices = [list(choice) for choice in combinations(range(len(parties)), size) if not _has_one_of(choice, parts)]
        # A crowd without one of its parties is a crowd: sizes behind the first one without crowds have none.
        found = choices if choices else found
    return found


def fewest_parties_out(book, parties):
    """How many parties must be left out at least, so that the others meet."""
    _check_parties(book, parties)
    return len(parties) - len(crowds(book, parties)[0])


def meeting_place(book, parties):
    """A point that obeys all rules of all parties; None if there is none."""
    _check_parties(book, parties)
    kinds, bounds = bounded(book, joined(book, parties))
    return point_below(kinds, bounds, len(book[0]))


def combined(book, parties):
    """The tight world of all rules of all parties."""
    _check_parties(book, parties)
    return tight(book, joined(book, parties))


def is_party(book, value):
    """Whether any value is a party of a book, which is not checked."""
    return type(value) == list and len(value) <= MOST_IN_PARTY and all([is_rule(book, item) for item in value])


def _check_parties(book, parties):
    """InvalidBook, then InvalidParties, unless it is a list of 1 to 8 parties of the book."""
    check_book(book)
    if type(parties) != list or not 1 <= len(parties) <= MOST_PARTIES:
        raise InvalidParties(None)
    for index, item in enumerate(parties):
        if not is_party(book, item):
            raise InvalidParties(index)
