"""Promise 26: lesser and greater points, books that are closed, and least points of worlds."""

import random
import unittest

from clashsize.errors import InvalidBook, InvalidWorld, NoPoints, NotClosed
from clashsize.kinds import is_in, is_point, is_rules, opposites
from clashsize.leasts import greater_closed, is_lesser_pair, least_point, lesser_closed, lesser_pair

from elimination import limits, rows_of, slow_meet
from samples import BOOKS, BOXES2, BOXES5, CURVE, DIFFERENCES4, HUGE, LEAN, LINE, ODD_VALUES, ONE_WAY, QUARTER, THREE, TILTED
from samples import TWELVE, as_fraction, pair_of, random_books, random_fraction, random_world, slow_dot

LATE = [(-1, 0), (0, -1), (1, -1)]
PAIR = ((0, (-1, 1)), ((1, 1), (0, 1)), ((0, 1), (1, 1)))
MANY = BOOKS + random_books() + [CURVE, DIFFERENCES4, TWELVE, LATE, LEAN]


def slow_lesser(one, other):
    return tuple([min(items, key=as_fraction) for items in zip(one, other)])


def slow_pair(book, value):
    """Whether a rule and two points are a lesser pair, by the words of the document."""
    (number, bound), one, other = value
    sums = [slow_dot(book[number], point) for point in (one, other, slow_lesser(one, other))]
    return max(sums[:2]) <= as_fraction(bound) < sums[2]


def closed_books():
    """Books that are lesser closed, of all numbers of unknowns."""
    source = random.Random(60)
    found = [book for book in MANY if lesser_closed(book)]
    for unknowns in (1, 2, 3, 4, 5):
        for count in (2, 4, 7):
            kinds = {}
            for _ in range(count):
                kind = [source.randint(0, 2) for _ in range(unknowns)]
                kind[source.randrange(unknowns)] = source.choice([-1, -1, -1, 1])
                kinds[tuple(kind)] = True
            for at in range(unknowns):
                kinds[tuple([-1 if place == at else 0 for place in range(unknowns)])] = source.randint(0, 3) > 0
            found.append(sorted([kind for kind, is_there in kinds.items() if is_there]) or [(1,) * unknowns])
    return found


class Closed(unittest.TestCase):
    def test_told_books(self):
        told = [(THREE, False, True), (LATE, True, True), (BOXES2, True, True), (TILTED, False, False), (LINE, True, True),
                (ONE_WAY, True, True), (QUARTER, True, True), (DIFFERENCES4, True, True), (BOXES5, True, True),
                ([(0, -1, -1)], False, True), ([(-1, 20, 1)], True, False), ([(0, 0, 0, 0, 1), (1, 1, 0, 0, 0)], True, False)]
        for book, lesser, greater in told:
            self.assertIs(lesser_closed(book), lesser, book)
            self.assertIs(greater_closed(book), greater, book)

    def test_greater_points_are_lesser_ones_of_the_opposites(self):
        for book in MANY:
            self.assertIs(greater_closed(book), lesser_closed(opposites(book)))

    def test_lesser_points_stay_in_worlds_of_closed_books(self):
        source = random.Random(61)
        held = 0
        for book in closed_books():
            self.assertIs(lesser_closed(book), True, book)
            for _ in range(20):
                one, other = [tuple([random_fraction(source) for _ in book[0]]) for _ in range(2)]
                world = [pair_of(max(slow_dot(kind, one), slow_dot(kind, other))) for kind in book]
                held = held + (slow_lesser(one, other) not in (one, other))
                self.assertIs(is_in(book, world, slow_lesser(one, other)), True)
        self.assertGreater(held, 100)


class Pairs(unittest.TestCase):
    def test_each_book(self):
        answers = []
        for book in MANY:
            found = lesser_pair(book)
            answers.append(found is None)
            self.assertIs(found is None, lesser_closed(book))
            if found is not None:
                rule, one, other = found
                self.assertEqual((type(found), type(rule)), (tuple, tuple))
                self.assertIs(is_rules(book, [rule]) and is_point(book, one) and is_point(book, other), True)
                self.assertIs(slow_pair(book, found), True)
                self.assertIs(is_lesser_pair(book, found), True)
        self.assertEqual({True, False}, set(answers))

    def test_changed_pairs(self):
        rule, one, other = PAIR
        told = [(PAIR, True), ((rule, other, one), True), ((rule, one, one), False), ((rule, one), False),
                ((rule, one, other, other), False), ([rule, one, other], False), ((list(rule), one, other), False),
                ((rule, list(one), other), False), (((1, (-1, 1)), one, other), False), (((3, (-1, 1)), one, other), False),
                (((0, (0, 1)), one, other), False), (((0, (-1, 2)), one, other), True), (((0, (-2, 1)), one, other), False),
                (((0, (-1, HUGE)), one, other), True), ((rule, one, ((0, 1), (1, 2))), False),
                ((rule, one, ((0, 1),)), False), ((rule, ((2, 2), (0, 1)), other), False), ((one, rule, other), False),
                ((rule, ((5, 1), (-4, 1)), ((-4, 1), (5, 1))), True), ((rule, ((5, 1), (-4, 1)), ((5, 1), (-3, 1))), False)]
        for value, answer in told:
            self.assertIs(is_lesser_pair(THREE, value), answer, value)

    def test_against_the_words_of_the_document(self):
        source = random.Random(62)
        answers = []
        for book in MANY:
            for _ in range(20):
                points = [tuple([pair_of(source.randint(-2, 2)) for _ in book[0]]) for _ in range(2)]
                number = source.randrange(len(book))
                bound = max([slow_dot(book[number], point) for point in points]) + source.choice([0, 0, 1, -1])
                value = ((number, pair_of(bound)), points[0], points[1])
                answers.append(slow_pair(book, value))
                self.assertIs(is_lesser_pair(book, value), answers[-1])
        self.assertGreater(min(answers.count(True), answers.count(False)), 50)

    def test_no_pair_of_a_closed_book(self):
        for book in (BOXES2, LINE, QUARTER):
            self.assertIsNone(lesser_pair(book))
        self.assertIs(is_lesser_pair(LATE, PAIR), False)

    def test_any_value(self):
        for value in ODD_VALUES:
            self.assertIs(is_lesser_pair(THREE, value), False)
            self.assertIs(is_lesser_pair(THREE, (value,) + PAIR[1:]), False)
            self.assertIs(is_lesser_pair(THREE, PAIR[:2] + (value,)), False)


class Least(unittest.TestCase):
    def test_told_worlds(self):
        told = [(LATE, [(-2, 1), (0, 1), (-3, 1)], ((2, 1), (5, 1))), (LATE, [(-2, 1), (0, 1), None], ((2, 1), (0, 1))),
                (LATE, [(-2, 1), None, (0, 1)], ((2, 1), (2, 1))), (LATE, [None, (0, 1), (0, 1)], None),
                (LATE, [None] * 3, None), (LINE, [(-1, 3), (1, 3)], ((1, 3),)), (LINE, [None, (1, 3)], None),
                (ONE_WAY, [(5, 1)], None), (BOXES2, [(-HUGE, 1), (7, 2), None, None], ((HUGE, 1), (-7, 2))),
                (QUARTER, [(5, 1), (5, 1)], None), ([(-2, 1), (0, -1)], [(0, 1), (3, 1)], ((-3, 2), (-3, 1)))]
        for book, world, answer in told:
            self.assertEqual(least_point(book, world), answer, world)

    def test_against_an_elimination(self):
        source = random.Random(63)
        answers = []
        for book in [book for book in closed_books() if len(book) <= 10]:
            for _ in range(5):
                world = random_world(source, book)
                rows = rows_of(book, world)
                if not slow_meet(rows):
                    answers.append("none")
                    with self.assertRaises(NoPoints):
                        least_point(book, world)
                else:
                    lows = [limits(rows, unknown)[0] if rows else None for unknown in range(len(book[0]))]
                    answers.append(None in lows)
                    found = least_point(book, world)
                    self.assertEqual(found, None if None in lows else tuple([pair_of(low) for low in lows]))
                    if found is not None:
                        self.assertIs(is_in(book, world, found), True)
        self.assertGreater(min([answers.count(kind) for kind in ("none", True, False)]), 10)

    def test_great_books(self):
        world = [(at % 4 + 1, 1) for at in range(12)]
        self.assertIsNone(least_point(DIFFERENCES4, world))
        world = [(-at, at + 1) for at in range(5)] + [(1, 1)] * 5
        self.assertEqual(least_point(BOXES5, world), ((0, 1), (1, 2), (2, 3), (3, 4), (4, 5)))

    def test_which_error_comes_first(self):
        with self.assertRaises(InvalidBook):
            least_point(THREE[::-1], None)
        with self.assertRaises(InvalidWorld):
            least_point(THREE, [None] * 2)
        for world in ([None] * 3, [(-1, 1), (0, 1), (0, 1)]):
            with self.assertRaises(NotClosed):
                least_point(THREE, world)
        with self.assertRaises(NoPoints):
            least_point(LINE, [(0, 1), (-1, HUGE)])

    def test_wrong_books(self):
        for call in (lesser_closed, greater_closed, lesser_pair, lambda book: is_lesser_pair(book, PAIR)):
            for book in ODD_VALUES + [[], THREE[::-1]]:
                with self.assertRaises(InvalidBook):
                    call(book)


if __name__ == "__main__":
    unittest.main()
