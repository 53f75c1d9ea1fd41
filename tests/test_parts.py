"""Promise 18, with 6 and 7: free kinds, directions that fall or slide, and kinds that hang together."""

import random
import unittest
from itertools import combinations

from clashsize.errors import InvalidBook
from clashsize.kinds import beside, opposites
from clashsize.parts import components, falling, free_kinds, is_falling, is_sliding, is_two_sided, pairs_enough, sliding

from elimination import slow_meet
from samples import BOOKS, BOXES2, BOXES5, CURVE, DIFFERENCES4, HUGE, LINE, ODD_VALUES, ONE_WAY, QUARTER, SIX, THREE
from samples import TILTED, TWELVE, random_book, random_books, slow_knots, slow_rank

HALF = [(-1, 0), (0, 1), (1, 0)]
MANY = BOOKS + random_books() + [HALF, CURVE, DIFFERENCES4, TWELVE, [(-1,)], [(1, 2, 3, 4, 5)]]


def small_books():
    """Many small books, among them falling ones and such with free kinds and others."""
    source = random.Random(18)
    shapes = [(1, 1, 1), (2, 2, 1), (2, 3, 1), (2, 4, 2), (3, 3, 1), (3, 4, 1), (3, 5, 1), (4, 5, 1), (5, 5, 1)]
    return [random_book(source, *shape) for shape in shapes for _ in range(12)]


def steps_of(book, direction):
    return [sum([one * two for one, two in zip(kind, direction)]) for kind in book]


def slow_free(book):
    tied = {number for knot in slow_knots(book) for number, _ in knot}
    return [number for number in range(len(book)) if number not in tied]


class Free(unittest.TestCase):
    def test_free_kinds(self):
        told = [(HALF, [1]), (BOXES2, []), (THREE, []), (ONE_WAY, [0]), ([(-1,)], [0]), (LINE, []), (QUARTER, [0, 1]),
                (BOXES5, []), (SIX, []), (CURVE, []), (TWELVE, list(range(12))), (THREE[:2], [0, 1])]
        for book, answer in told:
            self.assertEqual(free_kinds(book), answer, book)

    def test_against_a_look_at_each_set(self):
        for book in MANY + small_books():
            self.assertEqual(free_kinds(book), slow_free(book), book)

    def test_kinds_beside_a_free_one(self):
        self.assertEqual(free_kinds(beside(LINE, ONE_WAY)), [1])
        self.assertEqual(free_kinds(beside(ONE_WAY, BOXES2)), [4])


class Falling(unittest.TestCase):
    def test_there_is_one_exactly_if_there_is_no_knot(self):
        for book in MANY + small_books():
            found = falling(book)
            self.assertEqual(found is None, slow_knots(book) != [], book)
            if found is not None:
                self.check_form(book, found)
                self.assertTrue(all([step < 0 for step in steps_of(book, found)]), book)
                self.assertIs(is_falling(book, found), True)

    def check_form(self, book, direction):
        self.assertIs(type(direction), tuple)
        self.assertEqual(len(direction), len(book[0]))
        self.assertTrue(all([type(item) is int for item in direction]))

    def test_against_an_elimination(self):
        for book in small_books():
            self.assertEqual(falling(book) is not None, slow_meet([(kind, -1, False) for kind in book]), book)

    def test_told_books(self):
        self.assertEqual([falling(book) for book in (LINE, THREE, BOXES5, SIX, HALF, CURVE)], [None] * 6)
        for book in (ONE_WAY, [(-1,)], QUARTER, TWELVE, [(-20, 19), (-19, 20)], [(1, 2, 3, 4, 5)]):
            self.assertIs(is_falling(book, falling(book)), True)

    def test_is_falling(self):
        told = [((-1, -1), True), ((-1, 0), False), ((0, 0), False), ((1, -1), False), ((-HUGE, -1), True),
                ((-1,), False), ((-1, -1, -1), False), ([-1, -1], False), ((-1, True), False), ((-1, None), False)]
        for value, answer in told:
            self.assertIs(is_falling(QUARTER, value), answer, value)
        self.assertIs(is_falling([(0, 1), (1, 0), (1, 1)], (-1, -1)), True)
        self.assertIs(is_falling([(0, 1), (1, -1), (1, 0)], (-1, -1)), False)
        self.assertIs(is_falling([(0, 1), (1, -1), (1, 0)], (-2, -1)), True)
        self.assertIs(is_falling(LINE, (0,)), False)

    def test_any_value(self):
        for value in ODD_VALUES:
            for book in (QUARTER, ONE_WAY, [(1, 2, 3, 4, 5)]):
                self.assertIs(is_falling(book, value), False, value)
                self.assertIs(is_sliding(book, value), False, value)


class Sliding(unittest.TestCase):
    def test_it_slides(self):
        for book in MANY + small_books():
            found = sliding(book)
            free = slow_free(book)
            self.assertIs(type(found), tuple)
            self.assertEqual([type(item) for item in found], [int] * len(book[0]))
            for number, step in enumerate(steps_of(book, found)):
                self.assertEqual((step < 0, step == 0), (number in free, number not in free), book)
            self.assertIs(is_sliding(book, found), True)
            if not free:
                self.assertEqual(found, (0,) * len(book[0]))

    def test_is_sliding(self):
        told = [((0, -1), True), ((0, -HUGE), True), ((0, 0), False), ((0, 1), False), ((1, -1), False),
                ((-1, -1), False), ((0,), False), ((0, -1, 0), False), ([0, -1], False), ((False, -1), False)]
        for value, answer in told:
            self.assertIs(is_sliding(HALF, value), answer, value)

    def test_books_without_free_kinds(self):
        told = [(THREE, (0, 0), True), (THREE, (0, 1), False), (THREE, (1, 0), False), (LINE, (0,), True),
                ([(-1, 0), (1, 0)], (0, 0), True), ([(-1, 0), (1, 0)], (1, 0), False)]
        for book, value, answer in told:
            self.assertIs(is_sliding(book, value), answer, book)

    def test_books_of_free_kinds_alone(self):
        for book in small_books():
            if slow_knots(book) == []:
                self.assertIs(is_sliding(book, falling(book)), True)
                self.assertIs(is_falling(book, sliding(book)), True)


def slow_components(book):
    """Kinds are tied by each set of kinds that is dependent, while it is not without any one of them."""
    places = {number: {number} for number in range(len(book))}
    for size in range(2, len(book[0]) + 2):
        for numbers in combinations(range(len(book)), size):
            kinds = [book[number] for number in numbers]
            parts = [kinds[:at] + kinds[at + 1:] for at in range(size)]
            if slow_rank(kinds) == size - 1 and all([slow_rank(part) == size - 1 for part in parts]):
                both = set().union(*[places[number] for number in numbers])
                for number in both:
                    places[number] = both
    return sorted({tuple(sorted(place)) for place in places.values()})


class Components(unittest.TestCase):
    def test_told_books(self):
        told = [(BOXES2, [[0, 3], [1, 2]]), (THREE, [[0, 1, 2]]), (ONE_WAY, [[0]]), (LINE, [[0, 1]]),
                (QUARTER, [[0], [1]]), (TILTED, [[0, 3], [1, 2]]), (SIX, [[0, 1, 2, 3, 4, 5]]),
                (BOXES5, [[0, 9], [1, 8], [2, 7], [3, 6], [4, 5]]), (TWELVE, [list(range(12))]),
                ([(0, 1), (1, 0), (1, 1)], [[0, 1, 2]]), ([(0, 0, 1), (1, 0, 0), (1, 1, 0)], [[0], [1], [2]])]
        for book, answer in told:
            self.assertEqual(components(book), answer, book)

    def test_against_a_look_at_each_set(self):
        for book in [book for book in MANY + small_books() if len(book) <= 10]:
            self.assertEqual(components(book), [list(part) for part in slow_components(book)], book)

    def test_being_tied_needs_no_common_set(self):
        """Two kinds that are both tied to a third one are in some smallest dependent set together."""
        book = sorted([(1, 0, 0, 0), (0, 1, 0, 0), (1, 1, 0, 0), (0, 0, 1, 0), (0, 1, 1, 0), (0, 0, 0, 1)])
        self.assertEqual(components(book), [[0], [1, 2, 3, 4, 5]])

    def test_no_knot_has_kinds_of_two_lists(self):
        for book in MANY:
            found = components(book)
            self.assertEqual(sorted([number for part in found for number in part]), list(range(len(book))))
            self.assertEqual(found, sorted(found))
            self.assertTrue(all([part == sorted(part) for part in found]))
            for knot in slow_knots(book):
                self.assertEqual(len([part for part in found if knot[0][0] in part]), 1)
                self.assertTrue([part for part in found if {number for number, _ in knot} <= set(part)])

    def test_books_beside_each_other_share_no_list(self):
        both = beside(LINE, THREE)
        self.assertEqual(components(both), [[0, 4], [1, 2, 3]])


class Answers(unittest.TestCase):
    def test_pairs_enough(self):
        told = [(ONE_WAY, True), (LINE, True), (QUARTER, True), (BOXES2, True), (TILTED, True), (BOXES5, True),
                (HALF, True), (THREE, False), (SIX, False), (CURVE, False), (BOXES2 + [(1, 1)], False)]
        for book, answer in told:
            self.assertIs(pairs_enough(book), answer, book)
        for book in MANY + small_books():
            self.assertIs(pairs_enough(book), all([len(knot) == 2 for knot in slow_knots(book)]), book)

    def test_is_two_sided(self):
        told = [(ONE_WAY, False), (LINE, True), (QUARTER, False), (BOXES2, True), (TILTED, True), (BOXES5, True),
                (HALF, False), (THREE, False), (SIX, False), (CURVE, False), (DIFFERENCES4, True),
                ([(-2, 1), (2, -1)], True), ([(-2, 1), (1, -2)], False), ([(-1, -1), (1, 1)], True)]
        for book, answer in told:
            self.assertIs(is_two_sided(book), answer, book)
        for book in MANY + small_books():
            both = sorted(set(book + opposites(book)))
            self.assertIs(is_two_sided(book), all([tuple([-item for item in kind]) in book for kind in book]))
            if len(both) <= 12:
                self.assertIs(is_two_sided(both), True)

    def test_wrong_books(self):
        for call in (free_kinds, falling, sliding, components, pairs_enough, is_two_sided):
            for book in [None, [], THREE[::-1], tuple(THREE), [(2, 2)], TWELVE + [(1, 12)]]:
                with self.assertRaises(InvalidBook):
                    call(book)
        for call in (is_falling, is_sliding):
            for book in [None, [], THREE[::-1], tuple(THREE), [(2, 2)]]:
                with self.assertRaises(InvalidBook):
                    call(book, "wrong")


if __name__ == "__main__":
    unittest.main()
