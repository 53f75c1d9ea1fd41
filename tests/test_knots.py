"""Promise 17, with 6: knots, how many there are of each size, and which values are knots."""

import random
import unittest
from math import comb, gcd

from clashsize.errors import InvalidBook, InvalidNumber
from clashsize.kinds import beside, mixed, opposites, rank
from clashsize.knots import clash_size, greatest_knot, is_knot, knot_numbers, knots, knots_with

from samples import BOOKS, BOXES2, BOXES5, CURVE, DIFFERENCES4, LINE, ODD_VALUES, ONE_WAY, QUARTER, SIX, THREE, TILTED
from samples import random_books, slow_knots

KNOT = [(0, 1), (1, 1), (2, 1)]


class Knots(unittest.TestCase):
    def test_small_books(self):
        told = [(BOXES2, [[(0, 1), (3, 1)], [(1, 1), (2, 1)]]), (THREE, [KNOT]), (LINE, [[(0, 1), (1, 1)]]),
                (TILTED, [[(0, 1), (3, 1)], [(1, 1), (2, 1)]]), (ONE_WAY, []), ([(-1,)], []), (QUARTER, []),
                ([(-1, 0), (0, 1), (1, 0)], [[(0, 1), (2, 1)]]), (SIX, [[(at, 1) for at in range(6)]])]
        for book, answer in told:
            self.assertEqual(knots(book), answer, book)

    def test_weights(self):
        self.assertEqual(knots([(-3, -2), (0, 1), (1, 0)]), [[(0, 1), (1, 2), (2, 3)]])
        self.assertEqual(knots([(-1, -1), (-1, 1), (1, 0)]), [[(0, 1), (1, 1), (2, 2)]])
        self.assertEqual(knots([(-3, -5), (0, 1), (2, 1)]), [[(0, 2), (1, 7), (2, 3)]])
        self.assertEqual(knots([(-20, -19), (-19, 20), (20, -3)]), [[(0, 343), (1, 440), (2, 761)]])

    def test_weights_have_no_common_divisor(self):
        self.assertEqual(knots([(-3, -5), (1, 3), (3, 1)]), [[(0, 2), (1, 3), (2, 1)]])

    def test_books_of_twelve_kinds_and_five_unknowns(self):
        self.assertEqual((len(CURVE), rank(CURVE)), (12, 5))
        self.assertEqual(knots(CURVE), slow_knots(CURVE))
        self.assertEqual(knot_numbers(CURVE), [0, 0, 0, 0, 112])

    def test_against_a_look_at_each_set(self):
        for book in BOOKS + random_books():
            self.assertEqual(knots(book), slow_knots(book), book)

    def test_the_form_of_knots(self):
        for book in BOOKS + random_books():
            found = knots(book)
            self.assertEqual(found, sorted(found))
            for knot in found:
                self.assertIs(type(knot), list)
                self.assertTrue(all([type(item) is tuple for item in knot]))
                self.assertTrue(all([type(part) is int for item in knot for part in item]))
                self.assertEqual([number for number, _ in knot], sorted({number for number, _ in knot}))
                self.assertEqual(gcd(*[weight for _, weight in knot]), 1)
                self.assertTrue(2 <= len(knot) <= 6)
                for unknown in range(len(book[0])):
                    self.assertEqual(sum([weight * book[number][unknown] for number, weight in knot]), 0)

    def test_opposites_and_mixed_books_have_as_many_knots(self):
        for book in random_books():
            self.assertEqual(knot_numbers(opposites(book)), knot_numbers(book))
        turn = ((1, 1, 0), (0, 1, 0), (0, -1, -1))
        for book in [book for book in random_books() if len(book[0]) == 3]:
            self.assertEqual(knot_numbers(mixed(book, turn)), knot_numbers(book))

    def test_books_beside_each_other_share_no_knot(self):
        both = beside(THREE, BOXES2)
        self.assertEqual(knot_numbers(both), [2, 1, 0, 0])
        self.assertEqual(knot_numbers(beside(QUARTER, LINE)), [1, 0, 0])

    def test_wrong_books(self):
        for call in (knots, knot_numbers, clash_size, greatest_knot):
            for book in ODD_VALUES + [[], THREE[::-1], tuple(THREE), THREE + THREE, [(0, 1), (2, 2)]]:
                with self.assertRaises(InvalidBook):
                    call(book)


class Numbers(unittest.TestCase):
    def test_numbers_of_each_size(self):
        told = [(LINE, [1]), (ONE_WAY, [0]), (THREE, [0, 1]), (BOXES2, [2, 0]), (QUARTER, [0, 0]),
                (BOXES5, [5, 0, 0, 0, 0]), (SIX, [0, 0, 0, 0, 1])]
        for book, answer in told:
            self.assertEqual(knot_numbers(book), answer, book)

    def test_rings_of_differences(self):
        self.assertEqual(knot_numbers(DIFFERENCES4), [comb(4, 2), comb(4, 3) * 2, comb(4, 4) * 6, 0])

    def test_one_number_for_each_size(self):
        for book in BOOKS + random_books():
            sizes = [len(knot) for knot in slow_knots(book)]
            self.assertEqual(knot_numbers(book), [sizes.count(size) for size in range(2, len(book[0]) + 2)])


class Sizes(unittest.TestCase):
    def test_clash_sizes(self):
        told = [(LINE, 2), (ONE_WAY, 0), (THREE, 3), (BOXES2, 2), (TILTED, 2), (QUARTER, 0), (BOXES5, 2), (SIX, 6),
                (DIFFERENCES4, 4), ([(-1, 0), (0, 1), (1, 0)], 2), (BOXES2[:2] + [(0, 1), (1, 0), (1, 1)], 3)]
        for book, answer in told:
            self.assertEqual(clash_size(book), answer, book)

    def test_greatest_knots(self):
        told = [(ONE_WAY, None), (QUARTER, None), (LINE, [(0, 1), (1, 1)]), (BOXES2, [(0, 1), (3, 1)]), (THREE, KNOT)]
        for book, answer in told:
            self.assertEqual(greatest_knot(book), answer, book)

    def test_the_greatest_is_the_least_of_its_size(self):
        for book in BOOKS + random_books():
            found = slow_knots(book)
            size = max([len(knot) for knot in found] + [0])
            answer = min([knot for knot in found if len(knot) == size], default=None)
            self.assertEqual(greatest_knot(book), answer, book)
            self.assertEqual(clash_size(book), size)

    def test_a_smaller_knot_ahead_of_the_greatest(self):
        book = [(-1, 0), (-1, 1), (0, -1), (1, 0)]
        self.assertEqual(knots(book), [[(0, 1), (3, 1)], [(1, 1), (2, 1), (3, 1)]])
        self.assertEqual(greatest_knot(book), [(1, 1), (2, 1), (3, 1)])


class IsKnot(unittest.TestCase):
    def test_all_knots_are_knots(self):
        for book in BOOKS + random_books():
            for knot in slow_knots(book):
                self.assertIs(is_knot(book, knot), True)

    def test_changed_knots_are_none(self):
        for book in BOOKS + random_books():
            for knot in slow_knots(book)[:12]:
                changed = [knot[1:], knot[:-1], knot[::-1], knot + knot[-1:], tuple(knot), [list(item) for item in knot],
                           [(number, 2 * weight) for number, weight in knot],
                           [(number, -weight) for number, weight in knot],
                           knot[:-1] + [(knot[-1][0], knot[-1][1] + 1)], knot + [(len(book), 1)],
                           [(number - len(book), weight) for number, weight in knot],
                           [item + (0,) for item in knot], [item[:1] for item in knot], knot + [None], [knot]]
                for value in changed:
                    self.assertIs(is_knot(book, value), False, (book, value))

    def test_sums_of_knots_are_none(self):
        self.assertIs(is_knot(BOXES2, [(0, 1), (1, 1), (2, 1), (3, 1)]), False)
        self.assertIs(is_knot(BOXES2, [(0, 2), (1, 3), (2, 3), (3, 2)]), False)
        self.assertIs(is_knot([(-1, -1), (-1, 0), (0, 1), (1, 0)], [(0, 1), (1, 1), (2, 1), (3, 2)]), False)

    def test_a_kind_without_weight(self):
        self.assertIs(is_knot(BOXES2, [(0, 1), (1, 0), (3, 1)]), False)
        self.assertIs(is_knot(BOXES2, [(0, 1), (3, 1)]), True)
        self.assertIs(is_knot(QUARTER, [(0, 0), (1, 0)]), False)

    def test_negative_weights(self):
        book = [(0, 1), (1, 0), (1, 1)]
        self.assertIs(is_knot(book, [(0, 1), (1, 1), (2, -1)]), False)

    def test_true_and_false_are_no_integers(self):
        for value in [[(0, True), (1, 1)], [(0, 1), (True, 1)], [(False, 1), (1, 1)], [(False, True), (True, True)]]:
            self.assertIs(is_knot(LINE, value), False, value)

    def test_any_value(self):
        for book in BOOKS:
            for value in ODD_VALUES + [[], [(0, 1)], [(0, 0)], [(0, 1)] * 2, [(10 ** 59, 10 ** 59)], [(0, 10 ** 59)]]:
                self.assertIs(is_knot(book, value), False, value)

    def test_wrong_books(self):
        for book in [None, [], THREE[::-1], [(2, 2)]]:
            with self.assertRaises(InvalidBook):
                is_knot(book, KNOT)


class KnotsWith(unittest.TestCase):
    def test_knots_with(self):
        self.assertEqual(knots_with(TILTED, 1), [[(1, 1), (2, 1)]])
        self.assertEqual(knots_with(BOXES2, 0), [[(0, 1), (3, 1)]])
        self.assertEqual(knots_with([(-1, 0), (0, 1), (1, 0)], 1), [])
        self.assertEqual(knots_with(ONE_WAY, 0), [])

    def test_a_weight_is_no_number(self):
        book = [(-3, -2), (0, 1), (1, 0), (2, 1)]
        self.assertEqual(knots(book), [[(0, 1), (1, 2), (2, 3)], [(0, 2), (1, 1), (3, 3)]])
        self.assertEqual(knots_with(book, 3), [[(0, 2), (1, 1), (3, 3)]])
        self.assertEqual(knots_with(book, 2), [[(0, 1), (1, 2), (2, 3)]])

    def test_against_all_knots(self):
        for book in BOOKS + random_books():
            found = slow_knots(book)
            for number in range(len(book)):
                answer = [knot for knot in found if [item for item in knot if item[0] == number]]
                self.assertEqual(knots_with(book, number), answer)

    def test_wrong_numbers(self):
        for number in [-1, 3, 10 ** 59, True, False, None, "0", (0,), [0], {}, InvalidNumber("0")]:
            with self.assertRaises(InvalidNumber, msg=number):
                knots_with(THREE, number)
        self.assertEqual([knots_with(THREE, 0), knots_with(THREE, 2)], [[KNOT], [KNOT]])

    def test_which_error_comes_first(self):
        with self.assertRaises(InvalidBook):
            knots_with(THREE[::-1], 7)


class Facts(unittest.TestCase):
    def test_a_book_has_a_knot_exactly_if_nothing_falls(self):
        """A direction of a small reach is enough for the falling books with small items here."""
        source = random.Random(6)
        for _ in range(200):
            count = source.randint(1, 4)
            kinds = {(source.randint(-1, 1), source.randint(-1, 1)): True for _ in range(count)}
            book = sorted([kind for kind in kinds if kind != (0, 0)])
            steps = [(one, two) for one in range(-3, 4) for two in range(-3, 4)]
            falls = any([all([kind[0] * step[0] + kind[1] * step[1] < 0 for kind in book]) for step in steps])
            if book:
                self.assertEqual(clash_size(book) == 0, falls, book)


if __name__ == "__main__":
    unittest.main()
