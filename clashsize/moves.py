"""Worlds whose bounds move: how far they must be loosened, and when they have points."""

from clashsize.errors import InvalidFirmness, InvalidSpeeds
from clashsize.kinds import check_book, check_fraction, check_world, is_fraction, is_integer
from clashsize.ratios import at_most, divided, least, most, negative, plus, times
from clashsize.worlds import knot_sums, sum_of


def loosening(book, world, firmness):
    """The least fraction, at least 0, times which the firmness must be added to the bounds for points to be in."""
    check_book(book)
    check_world(book, world)
    _check_firmness(book, firmness)
    amounts = _as_fractions(firmness)
    lacks = [divided(negative(total), sum_of(knot, amounts)) for knot, total in knot_sums(book, world)]
    return most([(0, 1)] + lacks)


def holding(book, world, firmness):
    """The ascending list of the knots with the sum 0 in the loosened world; [] if it needs no loosening."""
    step = loosening(book, world, firmness)
    if step == (0, 1):
        return []
    loosened = _moved_by(world, _as_fractions(firmness), step)
    return [knot for knot, total in knot_sums(book, loosened) if total == (0, 1)]


def moved(book, world, speeds, time):
    """The world whose bounds are made greater by time times their speeds."""
    check_book(book)
    check_world(book, world)
    _check_speeds(book, speeds)
    check_fraction(time)
    return _moved_by(world, speeds, time)


def meeting_times(book, world, speeds):
    """The first and the last time at which the moved world has points, None for no end; None if there are none."""
    check_book(book)
    check_world(book, world)
    _check_speeds(book, speeds)
    lows = []
    highs = []
    for knot, total in knot_sums(book, world):
        speed = sum_of(knot, speeds)
        if speed[0] > 0:
            lows.append(divided(negative(total), speed))
        elif speed[0] < 0:
            highs.append(divided(negative(total), speed))
        elif total[0] < 0:
            return None
    first = most(lows)
    last = least(highs)
    never = first is not None and last is not None and not at_most(first, last)
    return None if never else (first, last)


def _moved_by(world, speeds, time):
    """The world with time times speed added to each bound."""
    return [None if bound is None else plus(bound, times(speed, time)) for bound, speed in zip(world, speeds)]


def _as_fractions(numbers):
    """The integers as fractions."""
    return [(number, 1) for number in numbers]


def _check_firmness(book, firmness):
    """InvalidFirmness unless it is a list with an integer from 1 on for each kind."""
    if type(firmness) != list or len(firmness) != len(book):
        raise InvalidFirmness("not a list with an item for each kind")
    if not all([is_integer(item) and item >= 1 for item in firmness]):
        raise InvalidFirmness("an item that is not an integer from 1 on")


def _check_speeds(book, speeds):
    """InvalidSpeeds unless it is a list with a fraction for each kind."""
    if type(speeds) != list or len(speeds) != len(book):
        raise InvalidSpeeds("not a list with an item for each kind")
    if not all([is_fraction(item) for item in speeds]):
        raise InvalidSpeeds("an item that is not a fraction")
