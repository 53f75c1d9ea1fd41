"""Promise 29, with 13: ranges, their depth, and how many meetings force a crowd."""

import random
import unittest
from itertools import combinations, combinations_with_replacement

from clashsize.errors import InvalidNumber, InvalidRanges
from clashsize.ranges import apart, crowd_place, crowded, depth_of, fewest_left, forced_depth, have_meetings, hitting
from clashsize.ranges import meeting_pairs, most_pairs, most_without

from samples import HUGE, ODD_VALUES, SOME

GREAT = 10 ** 12
ABOUT_RANGES = [depth_of, crowd_place, meeting_pairs, apart, hitting, fewest_left]


def slow_depth(ranges):
    """The depth, by a look at each integer; 0 of none."""
    places = range(min([low for low, _ in ranges], default=0), max([high for _, high in ranges], default=0) + 1)
    return max([len([1 for low, high in ranges if low <= place <= high]) for place in places], default=0)


def slow_meet(one, other):
    return any([other[0] <= place <= other[1] for place in range(one[0], one[1] + 1)])


def slow_pairs(ranges):
    return len([1 for one, other in combinations(ranges, 2) if slow_meet(one, other)])


def slow_apart(ranges):
    """The greatest number of ranges no two of which meet."""
    return max([size for size in range(len(ranges) + 1) for some in combinations(ranges, size) if slow_pairs(some) == 0])


def slow_without(ranges, number):
    """The greatest number of ranges with a depth below a number."""
    return max([size for size in range(len(ranges) + 1) for some in combinations(ranges, size)
                if slow_depth(some) < number])


def random_ranges(source, count, reach, length):
    lows = [source.randint(-reach, reach) for _ in range(count)]
    return [(low, low + source.randint(0, length)) for low in lows]


def some_ranges():
    """Short lists of ranges, ordered in no way, with equal ones among them."""
    source = random.Random(90)
    return [random_ranges(source, source.randint(1, 7), source.choice([2, 5, 9]), source.choice([0, 2, 6]))
            for _ in range(150)] + [SOME, [(0, 0)], [(0, 0), (0, 0)], [(0, 1), (1, 2)], [(0, 1), (2, 3)], [(-3, 9), (0, 1)]]


def long_ranges():
    """Lists of 400 ranges."""
    source = random.Random(91)
    return [random_ranges(source, 400, 100, 9), random_ranges(source, 400, HUGE // 2, HUGE // 100), [(0, 5)] * 400,
            [(at, at) for at in range(400)], [(-at, at) for at in range(400)], random_ranges(source, 400, 3, 0)]


class Depths(unittest.TestCase):
    def test_told_ranges(self):
        told = [(SOME, 2, 3), ([(7, 7)], 1, 7), ([(0, 4), (4, 9)], 2, 4), ([(0, 4), (5, 9)], 1, 0), ([(5, 9), (0, 4)], 1, 0),
                ([(-9, -5), (-7, -1), (-6, 0)], 3, -6), ([(0, 9), (2, 3), (5, 6)], 2, 2), ([(0, 9), (5, 6), (2, 3)], 2, 2),
                ([(1, 2)] * 400, 400, 1), ([(-HUGE, HUGE), (HUGE - 1, HUGE)], 2, HUGE - 1), ([(0, 5), (5, 5), (1, 3), (3, 4)], 3, 3)]
        for ranges, depth, place in told:
            self.assertEqual([depth_of(ranges), crowd_place(ranges)], [depth, place], ranges)

    def test_against_a_look_at_each_integer(self):
        for ranges in some_ranges():
            depth = slow_depth(ranges)
            self.assertEqual(depth_of(ranges), depth, ranges)
            self.assertEqual(fewest_left(ranges), len(ranges) - depth)
            numbers = [place for place in range(-20, 30)
                       if len([1 for low, high in ranges if low <= place <= high]) == depth]
            self.assertEqual(crowd_place(ranges), numbers[0], ranges)

    def test_long_lists(self):
        for ranges in long_ranges():
            depth, place = depth_of(ranges), crowd_place(ranges)
            self.assertEqual(len([1 for low, high in ranges if low <= place <= high]), depth)
            self.assertEqual(most_without(ranges, depth + 1), 400)
            self.assertLess(most_without(ranges, depth), 400)
            self.assertEqual(fewest_left(ranges), 400 - depth)


class Pairs(unittest.TestCase):
    def test_told_ranges(self):
        told = [(SOME, 3), ([(0, 0)], 0), ([(0, 0), (0, 0)], 1), ([(0, 1), (1, 2)], 1), ([(0, 1), (2, 3)], 0),
                ([(0, 9), (2, 3), (5, 6)], 2), ([(1, 2)] * 400, 400 * 399 // 2), ([(at, at) for at in range(400)], 0)]
        for ranges, answer in told:
            self.assertEqual(meeting_pairs(ranges), answer)

    def test_against_a_look_at_each_pair(self):
        for ranges in some_ranges():
            self.assertEqual(meeting_pairs(ranges), slow_pairs(ranges), ranges)

    def test_no_more_pairs_than_the_bound(self):
        for ranges in some_ranges() + long_ranges():
            depth = depth_of(ranges)
            self.assertLessEqual(meeting_pairs(ranges), most_pairs(len(ranges), depth))
            self.assertGreaterEqual(depth, forced_depth(len(ranges), meeting_pairs(ranges)))

    def test_most_pairs(self):
        told = [(5, 2, 4), (5, 1, 0), (5, 3, 7), (5, 5, 10), (5, 4, 9), (5, 6, 10), (5, GREAT, 10), (1, 1, 0), (1, 9, 0),
                (400, 2, 399), (GREAT, 1, 0), (GREAT, 2, GREAT - 1), (GREAT, GREAT, GREAT * (GREAT - 1) // 2),
                (GREAT, GREAT - 1, GREAT * (GREAT - 1) // 2 - 1)]
        for number, depth, answer in told:
            self.assertEqual(most_pairs(number, depth), answer, (number, depth))

    def test_all_short_lists(self):
        """All ranges between as many integers as there can be crowds."""
        for number in (1, 2, 3, 4, 5):
            places = [(low, high) for low in range(number) for high in range(low, number)]
            greatest = {}
            least = {}
            for ranges in combinations_with_replacement(places, number):
                pairs, depth = slow_pairs(ranges), slow_depth(ranges)
                for deep in range(depth, number + 2):
                    greatest[deep] = max(pairs, greatest.get(deep, 0))
                least[pairs] = min(depth, least.get(pairs, depth))
            for depth, pairs in greatest.items():
                self.assertEqual(most_pairs(number, depth), pairs, (number, depth))
            self.assertEqual(sorted(least), list(range(number * (number - 1) // 2 + 1)))
            for pairs, depth in least.items():
                self.assertEqual(forced_depth(number, pairs), depth, (number, pairs))

    def test_forced_depths(self):
        told = [(5, 4, 2), (5, 5, 3), (5, 0, 1), (5, 1, 2), (5, 7, 3), (5, 8, 4), (5, 9, 4), (5, 10, 5), (1, 0, 1),
                (2, 0, 1), (2, 1, 2), (GREAT, 0, 1), (GREAT, 1, 2), (GREAT, GREAT - 1, 2), (GREAT, GREAT, 3),
                (GREAT, GREAT * (GREAT - 1) // 2, GREAT), (GREAT, GREAT * (GREAT - 1) // 2 - 1, GREAT - 1)]
        for number, pairs, answer in told:
            self.assertEqual(forced_depth(number, pairs), answer, (number, pairs))

    def test_forced_depths_are_least(self):
        source = random.Random(92)
        for _ in range(300):
            number = source.choice([source.randint(1, 50), source.randint(1, GREAT)])
            pairs = source.randint(0, number * (number - 1) // 2)
            depth = forced_depth(number, pairs)
            self.assertTrue(1 <= depth <= number)
            self.assertGreaterEqual(most_pairs(number, depth), pairs)
            if depth > 1:
                self.assertLess(most_pairs(number, depth - 1), pairs)

    def test_crowded(self):
        for number in (1, 2, 3, 4, 7, 400):
            for depth in (1, 2, 3, 4, 6, 7, 8, 399, 400, 401, GREAT):
                ranges = crowded(number, depth)
                self.assertEqual((type(ranges), len(ranges)), (list, number))
                self.assertLessEqual(depth_of(ranges), depth)
                self.assertEqual(meeting_pairs(ranges), most_pairs(number, depth), (number, depth))


class Apart(unittest.TestCase):
    def test_told_ranges(self):
        told = [(SOME, [0, 2, 4]), ([(0, 0)], [0]), ([(0, 9), (2, 3), (5, 6)], [1, 2]), ([(5, 6), (2, 3), (0, 9)], [0, 1])]
        for ranges, answer in told:
            self.assertEqual(apart(ranges), answer)
        self.assertEqual([hitting([(0, 0)]), hitting([(3, 3), (1, 1), (3, 4)]), len(hitting(SOME))], [[0], [1, 3], 3])

    def test_against_a_look_at_each_set(self):
        for ranges in some_ranges():
            self.check(ranges, slow_apart(ranges))

    def test_long_lists(self):
        for ranges in long_ranges():
            self.check(ranges, len(apart(ranges)))

    def check(self, ranges, size):
        found = apart(ranges)
        self.assertEqual((type(found), len(found), found), (list, size, sorted(set(found))))
        chosen = sorted([ranges[index] for index in found])
        self.assertTrue(all([one[1] < other[0] for one, other in zip(chosen, chosen[1:])]))
        numbers = hitting(ranges)
        # As many integers are needed as ranges are apart.
        self.assertEqual((type(numbers), len(numbers), numbers), (list, size, sorted(set(numbers))))
        for low, high in ranges:
            self.assertTrue(any([low <= number <= high for number in numbers]))


class Meetings(unittest.TestCase):
    def test_told_ranges(self):
        self.assertEqual([most_without(SOME, number) for number in (1, 2, 3, 4, HUGE)], [0, 3, 5, 5, 5])
        self.assertEqual([most_without([(0, 9), (2, 3), (5, 6)], number) for number in (1, 2, 3)], [0, 2, 3])
        told = [(4, 2, True), (3, 2, False), (3, 1, True), (1, 1, True), (5, 3, False), (6, 3, True), (HUGE, HUGE, True),
                (5, 5, False), (2, 2, False), (5, 2, True)]
        for size, number, answer in told:
            self.assertIs(have_meetings(SOME, size, number), answer, (size, number))

    def test_most_without_against_a_look_at_each_set(self):
        for ranges in some_ranges():
            for number in range(1, 6):
                self.assertEqual(most_without(ranges, number), slow_without(ranges, number), (ranges, number))

    def test_have_meetings_against_a_look_at_each_set(self):
        answers = []
        for ranges in some_ranges()[::3]:
            for size in range(1, len(ranges) + 2):
                for number in range(1, size + 1):
                    answers.append(all([slow_depth(some) >= number for some in combinations(ranges, size)]))
                    self.assertIs(have_meetings(ranges, size, number), answers[-1], (ranges, size, number))
        self.assertGreater(min(answers.count(True), answers.count(False)), 100)

    def test_how_many_integers_hit_all(self):
        """The fact of promise 13 about p ranges among which q have a common integer."""
        held = 0
        for ranges in some_ranges():
            for size in range(2, len(ranges) + 1):
                for number in range(2, size + 1):
                    if have_meetings(ranges, size, number):
                        held = held + 1
                        self.assertLessEqual(len(hitting(ranges)), size - number + 1)
        self.assertGreater(held, 200)

    def test_long_lists(self):
        for ranges in long_ranges():
            found = [most_without(ranges, number) for number in (1, 2, 3, 10, 400, 401)]
            self.assertEqual((found[0], found[1], found[-1]), (0, len(apart(ranges)), 400))
            self.assertEqual(found, sorted(found))


class Wrong(unittest.TestCase):
    CALLS = ABOUT_RANGES + [lambda ranges: most_without(ranges, None), lambda ranges: have_meetings(ranges, None, None)]

    def index_of(self, call, ranges):
        with self.assertRaises(InvalidRanges, msg=ranges) as caught:
            call(ranges)
        return caught.exception.index

    def test_no_list_of_1_to_400_items(self):
        for call in self.CALLS:
            for ranges in [[], [(0, 1)] * 401, ((0, 1),), {}, None, "ranges", 0, (0, 1), [None] * 401]:
                self.assertIsNone(self.index_of(call, ranges))
        self.assertEqual(depth_of([(0, 1)] * 400), 400)

    def test_the_first_wrong_item(self):
        for call in self.CALLS:
            for item in [(1, 0), (0,), (0, 1, 2), [0, 1], (0, True), (False, 0), ("0", 1), None, 0, (None, 0), ((0, 1), 1), "01"]:
                self.assertEqual(self.index_of(call, [item]), 0)
                self.assertEqual(self.index_of(call, [(0, 0), (1, 3), item, (0, 1), item]), 2)
                self.assertEqual(self.index_of(call, [(0, 1)] * 399 + [item]), 399)

    def test_any_value(self):
        for value in ODD_VALUES:
            for call in self.CALLS:
                self.index_of(call, value)
                self.assertEqual(self.index_of(call, [(0, 0), value]), 1)

    def test_wrong_numbers(self):
        wrong = [0, -1, None, True, "1", (1,), [1], 10 ** 59 * -1]
        for number in wrong + [GREAT + 1, 10 ** 59]:
            for call in (lambda: most_pairs(number, None), lambda: most_pairs(1, number), lambda: forced_depth(number, None),
                         lambda: crowded(number, None), lambda: crowded(1, number), lambda: most_pairs(number, 1),
                         lambda: forced_depth(number, 0), lambda: crowded(number, 1)):
                with self.assertRaises(InvalidNumber, msg=number):
                    call()
        for number in wrong:
            for call in (lambda: most_without(SOME, number), lambda: have_meetings(SOME, number, None),
                         lambda: have_meetings(SOME, 1, number)):
                with self.assertRaises(InvalidNumber, msg=number):
                    call()

    def test_limits_of_numbers(self):
        for call in (lambda: crowded(401, 1), lambda: have_meetings(SOME, 3, 4), lambda: have_meetings(SOME, 1, 2),
                     lambda: forced_depth(5, 11), lambda: forced_depth(1, 1), lambda: forced_depth(5, -1),
                     lambda: forced_depth(5, None), lambda: forced_depth(5, True), lambda: forced_depth(5, "4"),
                     lambda: forced_depth(GREAT, GREAT * (GREAT - 1) // 2 + 1)):
            with self.assertRaises(InvalidNumber):
                call()
        self.assertEqual(len(crowded(400, GREAT)), 400)


if __name__ == "__main__":
    unittest.main()
