"""Promise 21, with 6 and 7: what one kind more changes, and which kinds are needed."""

import random
import unittest
from itertools import combinations, product
from math import gcd

from clashsize.changes import adds_knots, blocking, fewest_out, is_blocking, needed_kinds, raising, size_with
from clashsize.errors import InvalidBook, InvalidKind, InvalidNumber, TooLarge

from samples import BOOKS, BOXES2, BOXES5, CURVE, DIFFERENCES4, HUGE, LINE, ODD_VALUES, ONE_WAY, QUARTER, SIX, THREE
from samples import TILTED, TWELVE, only_weights, random_book, random_books, slow_knots

MANY = BOOKS + random_books() + [DIFFERENCES4, TWELVE]
SMALL = [book for book in MANY if len(book[0]) <= 3] + [SIX, DIFFERENCES4]


def slow_size(book):
    return max([len(knot) for knot in slow_knots(book)], default=0)


def size_without(book, out):
    """The clash size without the kinds with these numbers, whose knots are the others of the book."""
    knots = slow_knots(book)
    return max([len(knot) for knot in knots if not [number for number, _ in knot if number in out]], default=0)


def slow_new_size(book, kind):
    """The greatest size of a knot of a kind and some of the book, by a look at each set."""
    sets = [some for size in range(1, len(kind) + 1) for some in combinations(book, size)]
    return max([len(some) + 1 for some in sets if only_weights(some + (kind,)) is not None], default=0)


def with_kind(book, kind):
    return sorted(set(book + [kind]))


def kinds_for(book, source, count):
    """Kinds with as many unknowns, some of them in the book or opposites of its kinds."""
    found = [source.choice(book), tuple([-item for item in source.choice(book)])]
    while len(found) < count:
        found.extend(random_book(source, len(book[0]), 1, source.choice([1, 1, 2, 20])))
    return found


class Additions(unittest.TestCase):
    def test_sizes(self):
        told = [(BOXES2, (1, 1), 3), (BOXES2, (1, 0), 2), (ONE_WAY, (1,), 0), (ONE_WAY, (-1,), 2),
                (QUARTER, (-1, -1), 3), (QUARTER, (1, 1), 0), (QUARTER, (0, -1), 2), (SIX[1:], (-1,) * 5, 6),
                (THREE, (1, 1), 3), (TILTED, (0, 1), 3)]
        for book, kind, answer in told:
            self.assertEqual(size_with(book, kind), answer, (book, kind))

    def test_numbers(self):
        told = [(BOXES2, (1, 1), 1), (BOXES2, (1, 0), 0), (ONE_WAY, (-1,), 1), (QUARTER, (-1, -1), 1),
                (THREE, (1, 1), 1), (TILTED, (1, 0), 1), (TILTED, (0, 1), 1), (TWELVE, (-1, 0), 1),
                (TWELVE, (-1, -5), 5 * 6 + 1), (TWELVE, (0, 1), 0), (TWELVE, (-2, -1), 11)]
        for book, kind, answer in told:
            self.assertEqual(adds_knots(book, kind), answer, (book, kind))

    def test_against_a_look_at_each_set(self):
        source = random.Random(24)
        for book in MANY:
            for kind in kinds_for(book, source, 5)[:2 if len(book) > 8 else 5]:
                longer = with_kind(book, kind)
                self.assertEqual(size_with(book, kind), slow_size(longer), (book, kind))
                self.assertEqual(adds_knots(book, kind), len(slow_knots(longer)) - len(slow_knots(book)))

    def test_thirteen_kinds(self):
        kind = (-1, -6)
        self.assertEqual((len(TWELVE), size_with(TWELVE, kind), adds_knots(TWELVE, kind)), (12, 3, 6 * 5 + 1))
        self.assertEqual(size_with(CURVE, (1, 1, 1, 1, 1)), 6)
        self.assertEqual(adds_knots(CURVE, (1, 1, 1, 1, 1)), len(slow_knots(with_kind(CURVE, (1,) * 5))) - 112)
        self.assertIsNone(blocking(CURVE, (1, 1, 1, 1, 1)))

    def test_a_kind_of_the_book(self):
        for book in MANY:
            for kind in book[:3]:
                self.assertEqual((size_with(book, kind), adds_knots(book, kind)), (slow_size(book), 0))

    def test_wrong_kinds(self):
        wrong = [None, (1,), (1, 0, 0), [1, 0], (2, 2), (0, 0), (21, 1), (True, 0), (1, None), "1,0", 1]
        for kind in wrong + ODD_VALUES:
            for call in (size_with, adds_knots, blocking, lambda book, other: is_blocking(book, other, None)):
                with self.assertRaises(InvalidKind, msg=kind):
                    call(THREE, kind)
                with self.assertRaises(InvalidBook):
                    call(THREE[::-1], kind)


class Blocking(unittest.TestCase):
    def test_there_is_one_exactly_if_the_kind_is_in_no_knot(self):
        source = random.Random(25)
        answers = []
        for book in [book for book in MANY if len(book) <= 9 or len(book[0]) < 3]:
            for kind in kinds_for(book, source, 5):
                longer = with_kind(book, kind)
                place = longer.index(kind)
                tied = any([place in [number for number, _ in knot] for knot in slow_knots(longer)])
                found = blocking(book, kind)
                answers.append(tied)
                self.assertEqual(found is None, tied, (book, kind))
                if found is not None:
                    self.check_direction(book, kind, found)
        self.assertGreater(min(answers.count(True), answers.count(False)), 20)

    def check_direction(self, book, kind, direction):
        self.assertIs(type(direction), tuple)
        self.assertEqual([type(item) for item in direction], [int] * len(book[0]))
        self.assertLess(sum([one * two for one, two in zip(kind, direction)]), 0)
        for other in book:
            self.assertLessEqual(sum([one * two for one, two in zip(other, direction)]), 0)
        self.assertIs(is_blocking(book, kind, direction), True)

    def test_told_kinds(self):
        self.assertEqual([blocking(LINE, (1,)), blocking(ONE_WAY, (-1,)), blocking(THREE, (5, 7))], [None] * 3)
        for book, kind in [(ONE_WAY, (1,)), (QUARTER, (1, 1)), (QUARTER, (-1, 1)), ([(-1, 0), (1, 0)], (0, -1))]:
            self.check_direction(book, kind, blocking(book, kind))

    def test_is_blocking(self):
        told = [((0, -1), True), ((-1, -1), True), ((1, -1), False), ((0, 0), False), ((-1, 0), False), ((0, 1), False),
                ((-HUGE, -HUGE), True), ((0,), False), ((0, -1, 0), False), ([0, -1], False), ((False, -1), False)]
        for value, answer in told:
            self.assertIs(is_blocking([(1, 0)], (0, 1), value), answer, value)
        self.assertIs(is_blocking(LINE, (1,), (-1,)), False)
        self.assertIs(is_blocking([(-1, 1), (1, -1)], (1, 1), (-3, -3)), True)
        self.assertIs(is_blocking([(-1, 1), (1, -1)], (1, 1), (-3, -2)), False)
        self.assertIs(is_blocking([(-1, 1), (1, -1)], (1, 1), (-2, -3)), False)

    def test_any_value(self):
        for value in ODD_VALUES:
            self.assertIs(is_blocking(QUARTER, (1, 1), value), False)
            self.assertIs(is_blocking(ONE_WAY, (1,), value), False)


class Raising(unittest.TestCase):
    def test_told_books(self):
        told = [(BOXES2, 1, [(-1, -1), (-1, 1), (1, -1), (1, 1)]), (ONE_WAY, 1, [(-1,)]), (ONE_WAY, 5, [(-1,)]),
                (LINE, 5, []), (QUARTER, 1, [(-1, -1), (-1, 0), (0, -1)]), (THREE, 5, []), ([(-1,)], 3, [(1,)])]
        for book, reach, answer in told:
            self.assertEqual(raising(book, reach), answer, book)

    def test_against_a_look_at_each_set(self):
        source = random.Random(26)
        shapes = [(2, 2, 1), (2, 3, 2), (3, 3, 1), (4, 4, 1)] * 2
        books = [book for book in SMALL if len(book) <= 6] + [random_book(source, *shape) for shape in shapes]
        for book in books:
            for reach in (1, 2):
                if (2 * reach + 1) ** len(book[0]) <= 130:
                    size = slow_size(book)
                    items = range(-reach, reach + 1)
                    kinds = [kind for kind in product(items, repeat=len(book[0])) if gcd(*kind) == 1]
                    answer = [kind for kind in kinds if kind not in book and slow_new_size(book, kind) > size]
                    self.assertEqual(raising(book, reach), answer, (book, reach))

    def test_the_limit_of_tuples(self):
        """11 for one unknown and reach 5, 121 for two and 5, 125 for three and 2, 81 for four and 1; more are too many."""
        books = [ONE_WAY, QUARTER, [(1, 0, 0)], [(1, 0, 0, 0)], [(1, 0, 0, 0, 0)]]
        for book, most in zip(books, [5, 5, 2, 1, 0]):
            for reach in range(1, 6):
                if reach <= most:
                    opposite = tuple([-item for item in book[-1]])
                    self.assertIn(opposite, raising(book, reach))
                else:
                    with self.assertRaises(TooLarge) as caught:
                        raising(book, reach)
                    self.assertEqual(caught.exception.limit, 130)

    def test_wrong_reaches(self):
        for reach in [0, -1, 6, HUGE, 10 ** 59, True, None, "1", (1,), [1], InvalidNumber("1")]:
            for book in (THREE, BOXES5):
                with self.assertRaises(InvalidNumber, msg=reach):
                    raising(book, reach)
        with self.assertRaises(InvalidBook):
            raising([], 0)


class Needed(unittest.TestCase):
    def test_told_books(self):
        told = [(THREE, [0, 1, 2]), (BOXES2, []), (ONE_WAY, []), (QUARTER, []), (LINE, [0, 1]), (SIX, list(range(6))),
                (BOXES2 + [(1, 1)], [0, 1, 4]), ([(-1, 0), (0, 1), (1, 0)], [0, 2]), (CURVE, [])]
        for book, answer in told:
            self.assertEqual(needed_kinds(book), answer, book)

    def test_against_a_look_at_each_set(self):
        for book in MANY:
            size = slow_size(book)
            answer = [at for at in range(len(book)) if size_without(book, [at]) < size]
            self.assertEqual(needed_kinds(book), answer, book)


def slow_fewest(book, size):
    sizes = [({number for number, _ in knot}, len(knot)) for knot in slow_knots(book)]
    for count in range(len(book) + 1):
        found = [list(some) for some in combinations(range(len(book)), count)
                 if all([many <= size or kinds & set(some) for kinds, many in sizes])]
        if found:
            return found
    return None


class FewestOut(unittest.TestCase):
    def test_told_books(self):
        told = [(BOXES2, 0, [[0, 1], [0, 2], [1, 3], [2, 3]]), (BOXES2, 1, [[0, 1], [0, 2], [1, 3], [2, 3]]),
                (BOXES2, 2, [[]]), (THREE, 0, [[0], [1], [2]]), (THREE, 2, [[0], [1], [2]]), (THREE, 3, [[]]),
                (ONE_WAY, 0, [[]]), (QUARTER, 0, [[]]), (LINE, 0, [[0], [1]]), (SIX, 5, [[at] for at in range(6)]),
                (BOXES2 + [(1, 1)], 2, [[0], [1], [4]]), (TWELVE, 0, [[]])]
        for book, size, answer in told:
            self.assertEqual(fewest_out(book, size), answer, (book, size))

    def test_great_sizes(self):
        for size in (7, 1000, HUGE, 10 ** 59):
            for book in (BOXES2, SIX, CURVE, ONE_WAY):
                self.assertEqual(fewest_out(book, size), [[]])

    def test_against_a_look_at_each_set(self):
        for book in MANY + [CURVE]:
            for size in range(0, 7):
                found = fewest_out(book, size)
                self.assertEqual(found, slow_fewest(book, size), (book, size))
                self.assertEqual(found, sorted(found))

    def test_sizes_0_and_1(self):
        for book in MANY:
            self.assertEqual(fewest_out(book, 0), fewest_out(book, 1))

    def test_a_left_out_list_keeps_the_size(self):
        for book in SMALL:
            for size in (0, 2):
                for out in fewest_out(book, size):
                    self.assertLessEqual(size_without(book, out), size)

    def test_wrong_sizes(self):
        for size in [-1, -HUGE, True, False, None, "0", (0,), [0], InvalidNumber("0")]:
            with self.assertRaises(InvalidNumber, msg=size):
                fewest_out(THREE, size)
        with self.assertRaises(InvalidBook):
            fewest_out([], -1)
        for call in (needed_kinds, lambda book: fewest_out(book, 0), lambda book: raising(book, 1)):
            for book in [None, [], THREE[::-1], tuple(THREE)]:
                with self.assertRaises(InvalidBook):
                    call(book)


if __name__ == "__main__":
    unittest.main()
