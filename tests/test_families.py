"""Promise 20, with 4 and 6: families of books, and numbers of knots that are known ahead."""

import random
import unittest
from itertools import combinations
from math import comb, factorial, gcd

from clashsize.errors import InvalidArrows, InvalidFan, InvalidKind, InvalidNumber
from clashsize.families import arrows, box_size, boxes, differences, fan_numbers, ring_number, ring_total
from clashsize.kinds import is_book
from clashsize.knots import clash_size, knot_numbers

from samples import BOXES2, BOXES5, DIFFERENCES4, HUGE, LINE, ODD_VALUES, only_weights, random_books

WRONG_NUMBERS = [-1, 0, 1, 10 ** 59, True, False, None, "2", (2,), [2], InvalidNumber("2")]


def slow_fan_numbers(fan):
    return tuple([len([some for some in combinations(fan, size) if only_weights(some)]) for size in (2, 3)])


def directions(reach):
    """All tuples of two integers up to the reach without a common divisor."""
    items = range(-reach, reach + 1)
    return [(one, two) for one in items for two in items if gcd(one, two) == 1]


class Books(unittest.TestCase):
    def test_boxes(self):
        self.assertEqual([boxes(1), boxes(2), boxes(5)], [LINE, BOXES2, BOXES5])
        for number in range(1, 6):
            found = boxes(number)
            self.assertIs(is_book(found), True)
            self.assertEqual((len(found), len(found[0])), (2 * number, number))
            self.assertTrue(all([sorted(map(abs, kind)) == [0] * (number - 1) + [1] for kind in found]))
            self.assertEqual(clash_size(found), 2)

    def test_differences(self):
        self.assertEqual(differences(2), [(-1, 1), (1, -1)])
        self.assertEqual(differences(3), [(-1, 0, 1), (-1, 1, 0), (0, -1, 1), (0, 1, -1), (1, -1, 0), (1, 0, -1)])
        self.assertEqual(differences(4), DIFFERENCES4)

    def test_arrows(self):
        told = [(2, [(0, 1)], [(1, -1)]), (2, [(0, 1), (1, 0)], [(-1, 1), (1, -1)]),
                (3, [(0, 1), (1, 2), (2, 0)], [(-1, 0, 1), (0, 1, -1), (1, -1, 0)]), (5, [(0, 4)], [(1, 0, 0, 0, -1)]),
                (5, [(3, 1), (4, 0)], [(-1, 0, 0, 0, 1), (0, -1, 0, 1, 0)])]
        for number, pairs, answer in told:
            self.assertEqual(arrows(number, pairs), answer, pairs)

    def test_arrows_of_all_pairs_are_the_differences(self):
        for number in (2, 3, 4):
            pairs = [(one, two) for one in range(number) for two in range(number) if one != two]
            self.assertEqual(arrows(number, pairs), differences(number))
        five = [(one, two) for one in range(5) for two in range(5) if one != two]
        self.assertIs(is_book(arrows(5, five[:12])), True)
        with self.assertRaises(InvalidArrows):
            arrows(5, five[:13])

    def test_a_circle_of_arrows_is_a_knot(self):
        for number in range(2, 6):
            circle = [(at, (at + 1) % number) for at in range(number)]
            self.assertEqual(clash_size(arrows(number, circle)), number)
            self.assertEqual(clash_size(arrows(number, circle[1:])), 0)

    def test_wrong_arrows(self):
        wrong = [None, [], ((0, 1),), [(1, 0), (0, 1)], [(0, 1), (0, 1)], [(0, 0)], [(0, 3)], [(3, 0)], [(-1, 0)],
                 [(0, -1)], [[0, 1]], [(0, 1, 2)], [(0,)], [(False, 1)], [(0, True)], [(0, 1), None], {(0, 1): 1},
                 [(0, "1")], (0, 1), [(0, 1), (0, 3)], [(0, 1), (1, 1)], [(-1, 0), (0, 1)], [(0, 1), (1, 2), (2, 2)]]
        for pairs in wrong + ODD_VALUES:
            with self.assertRaises(InvalidArrows, msg=pairs):
                arrows(3, pairs)
        for number in range(2, 5):
            with self.assertRaises(InvalidArrows):
                arrows(number, [(0, number)])
            self.assertEqual(len(arrows(number + 1, [(0, number)])), 1)

    def test_wrong_numbers(self):
        for call, good in ((boxes, range(1, 6)), (differences, range(2, 5)), (lambda number: arrows(number, None), [])):
            for number in WRONG_NUMBERS + [6, 5]:
                if type(number) is not int or number not in good:
                    with self.assertRaises((InvalidNumber, InvalidArrows), msg=number) as caught:
                        call(number)
                    self.assertEqual(type(caught.exception) is InvalidArrows, number == 5 and good == [])

    def test_the_number_comes_ahead_of_the_arrows(self):
        for number in (1, 6, True, None, HUGE):
            with self.assertRaises(InvalidNumber):
                arrows(number, [])
        with self.assertRaises(InvalidArrows):
            arrows(2, [])


class Rings(unittest.TestCase):
    def test_numbers(self):
        told = [((2, 2), 1), ((3, 2), 3), ((3, 3), 2), ((4, 3), 8), ((4, 4), 6), ((5, 2), 10), ((5, 5), 24),
                ((10, 4), 1260)]
        for given, answer in told:
            self.assertEqual(ring_number(*given), answer, given)

    def test_books_of_differences(self):
        for number in range(2, 5):
            found = knot_numbers(differences(number))
            self.assertEqual([ring_number(number, size) for size in range(2, number + 2)], found)
            self.assertEqual(ring_total(number), sum(found))

    def test_sizes_above_the_number(self):
        for number in (2, 3, 1000):
            for size in (number + 1, number + 2, 5000, HUGE, 10 ** 59):
                answer = ring_number(number, size)
                self.assertEqual((answer, type(answer)), (0, int))

    def test_great_numbers(self):
        self.assertEqual(ring_number(1000, 1000), factorial(999))
        self.assertEqual(ring_number(1000, 2), 499500)
        self.assertEqual(ring_number(1000, 500), comb(1000, 500) * factorial(499))
        self.assertEqual(ring_total(1000), sum([comb(1000, size) * factorial(size - 1) for size in range(2, 1001)]))

    def test_totals(self):
        self.assertEqual([ring_total(number) for number in range(2, 7)], [1, 5, 20, 84, 409])

    def test_wrong_numbers(self):
        for number in WRONG_NUMBERS + [1001]:
            for call in (lambda: ring_number(number, 2), lambda: ring_number(number, None), lambda: ring_total(number)):
                with self.assertRaises(InvalidNumber, msg=number):
                    call()
        for size in [1, 0, -1, -HUGE, True, None, "2", (2,), [2]]:
            with self.assertRaises(InvalidNumber, msg=size):
                ring_number(5, size)


class BoxSizes(unittest.TestCase):
    def test_against_the_clash_size(self):
        kinds = [(1,), (-1,), (1, 1), (0, 1), (-20, 19), (1, 0, -2), (0, 0, -1), (3, 5, 7), (1, 0, 0, 2),
                 (0, 2, 0, 0, 1), (1, 2, 3, 4, 5), (-1, 1, -1, 1, -1), (0, 0, 0, 0, 1)]
        for kind in kinds + [kind for book in random_books() for kind in book]:
            book = sorted(set(boxes(len(kind)) + [kind]))
            self.assertEqual(box_size(kind), clash_size(book), kind)

    def test_sizes(self):
        told = [((1,), 2), ((0, -1), 2), ((1, 1), 3), ((1, 0, -2), 3), ((1, 1, 1, 1, 1), 6), ((0, 0, 0, 0, -1), 2)]
        for kind, answer in told:
            self.assertEqual(box_size(kind), answer, kind)

    def test_wrong_kinds(self):
        for kind in ODD_VALUES + [(2,), (0, 0), (2, 4), (21, 1), [1, 0], (1, 0, 0, 0, 0, 0), (True, 2), (1, None)]:
            with self.assertRaises(InvalidKind, msg=kind):
                box_size(kind)


class Fans(unittest.TestCase):
    def test_small_fans(self):
        told = [([(1, 0)], (0, 0)), ([(-1, 0), (1, 0)], (1, 0)), ([(-1, -1), (0, 1), (1, 0)], (0, 1)),
                ([(-1, 0), (0, 1), (1, 0)], (1, 0)), (BOXES2, (2, 0)), (directions(1), (4, 8)),
                ([(-1, -1), (-1, 0), (0, 1), (1, 0)], (1, 1)), ([(0, 1), (1, 0)], (0, 0))]
        for fan, answer in told:
            self.assertEqual(fan_numbers(fan), answer, fan)
            self.assertIs(type(fan_numbers(fan)), tuple)

    def test_against_a_look_at_each_set(self):
        source = random.Random(23)
        choice = directions(4)
        for count in list(range(1, 15)) * 4:
            fan = sorted(source.sample(choice, count))
            self.assertEqual(fan_numbers(fan), slow_fan_numbers(fan), fan)

    def test_within_half_a_plane(self):
        upper = [item for item in directions(3) if item[1] > 0]
        self.assertEqual(fan_numbers(upper), (0, 0))
        self.assertEqual(fan_numbers(sorted(upper + [(1, 0)])), (0, 0))
        self.assertEqual(fan_numbers(sorted(upper + [(-1, 0), (1, 0)])), (1, 0))
        whole = sorted(upper + [(-1, 0), (1, 0), (0, -1)])
        self.assertEqual(fan_numbers(whole), slow_fan_numbers(whole))

    def test_great_items(self):
        edge = 10 ** 6
        fan = [(-edge, 1 - edge), (-1, 0), (1, edge), (edge - 1, edge), (edge, edge - 1)]
        self.assertEqual(fan_numbers(fan), slow_fan_numbers(fan))
        self.assertEqual(fan_numbers(fan)[0], 1)
        near = [(-edge, -edge + 1), (edge - 1, edge - 2), (edge, edge - 1)]
        self.assertEqual(fan_numbers(near), (1, 0))

    def test_400_tuples(self):
        """Opposite pairs: each three that is no knot has one with both others behind it, so it can be reckoned."""
        half = [item for item in directions(20) if item > (0, 0)][:200]
        fan = sorted(half + [(-one, -two) for one, two in half])
        self.assertEqual(len(fan), 400)
        # Each one has 199 others to its left and its opposite.
        self.assertEqual(fan_numbers(fan), (200, comb(400, 3) - 400 * comb(200, 2)))
        with self.assertRaises(InvalidFan):
            fan_numbers(sorted(fan + [(999, 1000)]))
        upper = [(at, 1) for at in range(-200, 200)]
        self.assertEqual(fan_numbers(upper), (0, 0))
        self.assertEqual(fan_numbers(sorted(upper[1:] + [(0, -1)])), (1, 199 * 199))

    def test_wrong_fans(self):
        wrong = [None, [], ((0, 1),), [(1, 0), (0, 1)], [(0, 1), (0, 1)], [(0, 0)], [(2, 0)], [(2, 4)], [(0, 1, 1)],
                 [(1,)], [[0, 1]], [(True, 0)], [(0, 1), None], [(0, 1), (1, 10 ** 6 + 1)], [(-10 ** 6 - 1, 1)], "fan",
                 {(0, 1): 1}]
        for fan in wrong + ODD_VALUES:
            with self.assertRaises(InvalidFan, msg=fan):
                fan_numbers(fan)
        self.assertEqual(fan_numbers([(-10 ** 6, 1), (1, 10 ** 6)]), (0, 0))


if __name__ == "__main__":
    unittest.main()
