"""Ranges of integers: how many of them meet, and how many meetings force a crowd."""

from clashsize.errors import InvalidRanges
from clashsize.kinds import check_number, is_integers

MOST_RANGES = 400
MOST_NUMBER = 1000000000000


def depth_of(ranges):
    """The greatest number of the ranges that have a common integer."""
    _check_ranges(ranges)
    return _most_at_once(ranges)[0]


def crowd_place(ranges):
    """The least integer that so many of the ranges have."""
    _check_ranges(ranges)
    return -_most_at_once(ranges)[1]


def _most_at_once(ranges):
    """The tuple of the depth and of the least integer with it, with its sign changed."""
    # The integers with the depth begin where a range begins.
    return max([(len([high for low, high in ranges if low <= place <= high]), -place) for place, _ in ranges])


def meeting_pairs(ranges):
    """How many pairs of the ranges meet."""
    _check_ranges(ranges)
    found = 0
    for at, (low, high) in enumerate(ranges):
        found = found + len([other for other in ranges[:at] if other[0] <= high and low <= other[1]])
    return found


def most_pairs(number, depth):
    """The greatest number of pairs that meet of so many ranges with at most this depth."""
    check_number(number, 1, MOST_NUMBER)
    check_number(depth, 1, MOST_NUMBER)
    return _most_pairs(number, depth)


def _most_pairs(number, depth):
    """The same without checks."""
    deep = min(number, depth)
    return deep * (deep - 1) // 2 + (number - deep) * (deep - 1)


def forced_depth(number, pairs):
    """The least depth of so many ranges of which so many pairs meet."""
    check_number(number, 1, MOST_NUMBER)
    check_number(pairs, 0, number * (number - 1) // 2)
    # The depth is above low, and high is enough.
    low = 0
    high = number
    while high - low > 1:
        middle = (low + high) // 2
        if _most_pairs(number, middle) >= pairs:
            high = middle
        else:
            low = middle
    return high


def crowded(number, depth):
    """A list of so many ranges with at most this depth and the greatest number of pairs that meet."""
    check_number(number, 1, MOST_RANGES)
    check_number(depth, 1, MOST_NUMBER)
    return [(low, low + depth - 1) for low in range(number)]


def apart(ranges):
    """An ascending list of the indexes of as many ranges as possible no two of which meet."""
    _check_ranges(ranges)
    return sorted(_first_to_end(ranges))


def hitting(ranges):
    """An ascending list of as few integers as possible such that each range has one of them."""
    _check_ranges(ranges)
    return [ranges[index][1] for index in _first_to_end(ranges)]


def _first_to_end(ranges):
    """The indexes of ranges that are apart: again and again the one that ends first behind the end of the last one."""
    found = []
    for high, low, index in sorted([(high, low, index) for index, (low, high) in enumerate(ranges)]):
        if not found or ranges[found[-1]][1] < low:
            found.append(index)
    return found


def most_without(ranges, number):
    """The greatest number of the ranges that have a depth below a number."""
    _check_ranges(ranges)
    check_number(number, 1, None)
    return _most_without(ranges, number)


def _most_without(ranges, number):
    """The same without checks."""
    left_out = 0
    reached = []
    for low, high in sorted(ranges):
        reached = sorted([end for end in reached if end >= low] + [high])
        if len(reached) == number:
            # The one that goes on the longest is in the way of most of the others.
            reached = reached[:-1]
            left_out = left_out + 1
    return len(ranges) - left_out


def have_meetings(ranges, size, number):
    """Whether among any such number of the ranges some of them, as many as the second number, have a common integer."""
    _check_ranges(ranges)
    check_number(size, 1, None)
    check_number(number, 1, size)
    return _most_without(ranges, number) < size


def fewest_left(ranges):
    """How many ranges must be left out at least, so that the others meet."""
    _check_ranges(ranges)
    return len(ranges) - depth_of(ranges)


def _check_ranges(ranges):
    """InvalidRanges unless it is a list of 1 to 400 ranges."""
    if type(ranges) != list or not 1 <= len(ranges) <= MOST_RANGES:
        raise InvalidRanges(None)
    for index, item in enumerate(ranges):
        if not is_integers(item) or len(item) != 2 or item[0] > item[1]:
            raise InvalidRanges(index)
