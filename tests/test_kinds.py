"""Promise 16, with 4 and 5: whether any value is a kind, a book, a fraction, rules, a world or a point."""

import unittest

from clashsize.kinds import is_book, is_fraction, is_kind, is_point, is_rules, is_world

from samples import BOOKS, BOXES5, HUGE, LINE, ODD_VALUES, THREE, TWELVE, random_books

THIRTEEN = [(1, at) for at in range(13)]
RULE = (0, (0, 1))
ORIGIN = ((0, 1), (0, 1))


class Kinds(unittest.TestCase):
    def test_kinds(self):
        for value in [(1,), (-1,), (0, 1), (20, -19), (-20, 1), (6, 10, 15), (0, 0, 0, 0, 1), (1, 2, 3, 4, 5)]:
            self.assertIs(is_kind(value), True, value)

    def test_no_kinds(self):
        for value in [(0,), (2,), (-20,), (0, 0), (2, 2), (-2, 4), (0, -3), (21, 1), (1, -21), (1, 10 ** 59), (),
                      (0, 0, 0, 0, 0, 1), (1, 1, 1, 1, 1, 1), [1, 0], "10", (1, None), (1, "0"), ((1,),), 1, {1: 0}]:
            self.assertIs(is_kind(value), False, value)

    def test_true_and_false_are_no_integers(self):
        for value in [(True,), (True, 0), (1, False), (1, True)]:
            self.assertIs(is_kind(value), False, value)

    def test_any_value(self):
        for value in ODD_VALUES:
            for answer in (is_kind(value), is_book(value)):
                self.assertIs(answer, False, value)


class Books(unittest.TestCase):
    def test_books(self):
        for value in BOOKS + random_books() + [TWELVE, [(-20, -19)], [(1, 2, 3, 4, 5)]]:
            self.assertIs(is_book(value), True, value)

    def test_number_of_kinds(self):
        self.assertEqual([is_book([]), is_book([(1,)]), is_book(TWELVE), is_book(THIRTEEN)], [False, True, True, False])

    def test_number_of_unknowns(self):
        kinds = [(0,) * count + (1,) for count in range(6)]
        self.assertEqual([is_book([kind]) for kind in kinds], [True] * 5 + [False])

    def test_no_books(self):
        for value in [[(1, 0), (0, 1)], [(0, 1), (0, 1)], [(-1, 0), (1,)], [(-1,), (1, 0)], [(0, 1), (0, 2)],
                      [(0, 1), (0, 21)], [(0, 1), [1, 0]], ((0, 1), (1, 0)), {(0, 1): 1}, [(0, 1), (1, False)],
                      [(0, 0)], [(-1, -1), (0, 0), (1, 1)], [(0, 1), None], "book", (0, 1)]:
            self.assertIs(is_book(value), False, value)


class Fractions(unittest.TestCase):
    def test_fractions(self):
        for value in [(0, 1), (1, 1), (-7, 3), (HUGE, HUGE - 1), (-HUGE, 1), (10 ** 59, 10 ** 59 + 1)]:
            self.assertIs(is_fraction(value), True, value)

    def test_no_fractions(self):
        for value in [(0, 2), (2, 4), (3, 3), (1, 0), (0, 0), (1, -1), (-1, -2), (0, -1), (1,), (1, 2, 3), (), [1, 2],
                      1, "1/2", (True, 1), (1, True), (False, 1), (None, 1), ("1", "2"), ((1, 2), 1), (10 ** 59, 10)]:
            self.assertIs(is_fraction(value), False, value)

    def test_any_value(self):
        for value in ODD_VALUES:
            self.assertIs(is_fraction(value), False, value)


class Rules(unittest.TestCase):
    def test_rules(self):
        for value in [[], [RULE], [RULE] * 40, [(2, (-7, 3)), (0, (1, 2)), (2, (0, 1))], [(1, (HUGE, 2 ** 70))]]:
            self.assertIs(is_rules(THREE, value), True, value)

    def test_no_rules(self):
        for value in [[RULE] * 41, [(3, (0, 1))], [(-1, (0, 1))], [(0, (0, 2))], [(0, (1, -1))], [(0, 0)], [(0, None)],
                      [(True, (0, 1))], [(False, (0, 1))], [(0, (True, 1))], [[0, (0, 1)]], [(0, [0, 1])], [(0,)],
                      [(0, (0, 1), 0)], (RULE,), RULE, [RULE, RULE, None], {0: (0, 1)}, None]:
            self.assertIs(is_rules(THREE, value), False, value)

    def test_the_last_kind_of_a_book(self):
        for book in BOOKS:
            self.assertIs(is_rules(book, [(len(book) - 1, (0, 1))]), True)
            self.assertIs(is_rules(book, [(len(book), (0, 1))]), False)


class Worlds(unittest.TestCase):
    def test_worlds(self):
        for value in [[None] * 3, [(0, 1)] * 3, [None, (-7, 3), (HUGE, 1)]]:
            self.assertIs(is_world(THREE, value), True, value)

    def test_no_worlds(self):
        for value in [[], [None] * 2, [None] * 4, [(0, 1)] * 4, (None, None, None), [None, None, (0, 2)],
                      [(2, 2), None, None], [None, 0, None], [None, False, None], [None, [0, 1], None], None,
                      [None, (True, 1), None], [None, (1, -1), None], {}]:
            self.assertIs(is_world(THREE, value), False, value)


class Points(unittest.TestCase):
    def test_points(self):
        for value in [ORIGIN, ((-7, 3), (1, 2)), ((HUGE, 1), (1, HUGE))]:
            self.assertIs(is_point(THREE, value), True, value)
        self.assertIs(is_point(LINE, ((1, 2),)), True)
        self.assertIs(is_point(BOXES5, ((1, 2),) * 5), True)

    def test_no_points(self):
        for value in [(), ((0, 1),), ((0, 1),) * 3, [(0, 1), (0, 1)], ((0, 1), None), ((0, 1), (2, 2)), (0, 1),
                      ((0, 1), [0, 1]), ((0, 1), (False, 1)), ((0, 1), (0, True)), ((0, 1), (1, -1)), ((0, 1), 0), None]:
            self.assertIs(is_point(THREE, value), False, value)


if __name__ == "__main__":
    unittest.main()
