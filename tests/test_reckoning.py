"""Promise 16, with 3, 4 and 5: what is reckoned with books, rules, worlds and points."""

import random
import unittest

from clashsize.errors import InvalidBook, InvalidMatrix, InvalidNumbers, InvalidPoint
from clashsize.errors import InvalidRules, InvalidWorld, TooLarge
from clashsize.kinds import beside, is_book, is_in, mixed, obeys, opposites, product, rank, world_of

from samples import BOOKS, BOXES2, BOXES5, HUGE, LINE, ONE_WAY, QUARTER, SIX, THREE, TILTED, TWELVE
from samples import as_fraction, pair_of, random_book, random_books, random_fraction, rule_list, slow_dot, slow_rank

RULE = (0, (0, 1))
ORIGIN = ((0, 1), (0, 1))


def slow_product(numbers, point):
    return pair_of(slow_dot(numbers, point))


class Products(unittest.TestCase):
    def test_products(self):
        self.assertEqual(product(THREE, (2, 5), ((1, 2), (1, 5))), (2, 1))
        self.assertEqual(product(THREE, (0, 0), ((1, 2), (1, 5))), (0, 1))
        self.assertEqual(product(THREE, (1, -1), ((1, 2), (1, 2))), (0, 1))
        self.assertEqual(product(THREE, (1, 1), ((1, 6), (1, 3))), (1, 2))
        self.assertEqual(product(LINE, (-3,), ((7, 6),)), (-7, 2))

    def test_large_numbers(self):
        numbers = (HUGE, -HUGE)
        point = ((HUGE, HUGE - 1), (HUGE - 2, 2))
        self.assertEqual(product(THREE, numbers, point), slow_product(numbers, point))

    def test_against_fractions(self):
        source = random.Random(3)
        for book in BOOKS:
            for _ in range(20):
                numbers = tuple([source.randint(-30, 30) for _ in book[0]])
                point = tuple([random_fraction(source) for _ in book[0]])
                self.assertEqual(product(book, numbers, point), slow_product(numbers, point))

    def test_wrong_numbers(self):
        for numbers in [(1,), (1, 2, 3), [1, 2], (1, True), (1, None), (1, (2, 1)), (), None, "12"]:
            with self.assertRaises(InvalidNumbers, msg=numbers):
                product(THREE, numbers, ORIGIN)

    def test_wrong_points(self):
        for point in [((0, 1),), [(0, 1), (0, 1)], ((0, 1), (0, 2)), None]:
            with self.assertRaises(InvalidPoint, msg=point):
                product(THREE, (1, 2), point)

    def test_which_error_comes_first(self):
        with self.assertRaises(InvalidBook):
            product([], (1,), None)
        with self.assertRaises(InvalidNumbers):
            product(THREE, (1,), None)


class Obeying(unittest.TestCase):
    def test_no_rules(self):
        self.assertIs(obeys(THREE, [], ORIGIN), True)
        self.assertIs(is_in(THREE, [None] * 3, ORIGIN), True)

    def test_a_bound_that_a_point_takes_just_so(self):
        point = ((1, 2), (1, 3))
        for numerator, answer in [(5, True), (4, False), (7, True)]:
            bound = slow_product((1,), ((numerator, 6),))
            self.assertIs(obeys([(1, 1)], [(0, bound)], point), answer, bound)
            self.assertIs(is_in([(1, 1)], [bound], point), answer, bound)

    def test_bounds_that_differ_by_little(self):
        point = ((HUGE, HUGE - 1),)
        self.assertIs(obeys(ONE_WAY, [(0, (HUGE, HUGE - 1))], point), True)
        self.assertIs(obeys(ONE_WAY, [(0, (HUGE + 1, HUGE))], point), False)
        self.assertIs(is_in(ONE_WAY, [(HUGE - 1, HUGE - 2)], point), True)
        self.assertIs(is_in(ONE_WAY, [(1, 1)], point), False)

    def test_all_rules_count(self):
        point = ((1, 1), (2, 1))
        good = [(1, (2, 1)), (2, (1, 1)), (0, (-3, 1))]
        self.assertIs(obeys(THREE, good, point), True)
        for at in range(3):
            bad = good[:at] + [(good[at][0], (-4, 1))] + good[at + 1:]
            self.assertIs(obeys(THREE, bad, point), False)
        self.assertIs(obeys(THREE, [(1, (1, 1)), (1, (9, 1))], point), False)
        self.assertIs(obeys(THREE, [(1, (9, 1)), (1, (1, 1))], point), False)

    def test_worlds_with_none(self):
        point = ((1, 1), (2, 1))
        self.assertIs(is_in(THREE, [(-3, 1), (2, 1), (1, 1)], point), True)
        self.assertIs(is_in(THREE, [(-3, 1), (1, 1), None], point), False)
        self.assertIs(is_in(THREE, [None, None, (1, 1)], point), True)
        self.assertIs(is_in(THREE, [None, None, (1, 2)], point), False)
        self.assertIs(is_in(THREE, [(-4, 1), None, None], point), False)

    def test_against_fractions(self):
        source = random.Random(4)
        for book in BOOKS * 8:
            point = tuple([random_fraction(source) for _ in book[0]])
            world = [source.choice([None, random_fraction(source), (9, 1), (99, 1)]) for _ in book]
            rules = rule_list(world)
            answer = all([as_fraction(slow_product(book[number], point)) <= as_fraction(bound) for number, bound in rules])
            self.assertIs(is_in(book, world, point), answer)
            self.assertIs(obeys(book, rules, point), answer)

    def test_wrong_rules(self):
        wrong = [([RULE] * 41, None), (None, None), ((RULE,), None), ([None] * 41, None), ([None], 0), ([RULE, RULE, 7, 8], 2),
                 ([RULE] * 39 + [(3, (0, 1))], 39), ([RULE, (0, (2, 2)), None], 1), ([(True, (0, 1))], 0), ({}, None)]
        for rules, index in wrong:
            for call in (lambda: obeys(THREE, rules, ORIGIN), lambda: world_of(THREE, rules)):
                with self.assertRaises(InvalidRules) as caught:
                    call()
                self.assertEqual(caught.exception.index, index)
                self.assertNotEqual(type(caught.exception.index), bool)

    def test_which_error_comes_first(self):
        with self.assertRaises(InvalidBook):
            obeys(None, None, None)
        with self.assertRaises(InvalidRules):
            obeys(THREE, None, None)
        with self.assertRaises(InvalidPoint):
            obeys(THREE, [], None)
        with self.assertRaises(InvalidBook):
            is_in(None, None, None)
        with self.assertRaises(InvalidWorld):
            is_in(THREE, [None] * 2, None)
        with self.assertRaises(InvalidPoint):
            is_in(THREE, [None] * 3, [])


class Ranks(unittest.TestCase):
    def test_ranks(self):
        told = [(BOXES2, 2), (THREE, 2), (TILTED, 2), (LINE, 1), (ONE_WAY, 1), (BOXES5, 5), (SIX, 5), (TWELVE, 2),
                ([(-1, -2, -3), (1, 2, 3)], 1), ([(1, 0, 1), (1, 1, 0), (2, 1, 1)], 2), ([(0, 0, 1)], 1),
                ([(0, 0, 1, 0, 2), (0, 0, 1, 1, 0), (0, 0, 2, 1, 2)], 2)]
        for book, answer in told:
            self.assertEqual(rank(book), answer, book)

    def test_against_determinants(self):
        source = random.Random(5)
        for book in random_books() + [random_book(source, 3, 3, 2) for _ in range(40)]:
            self.assertEqual(rank(book), slow_rank(book), book)


class WorldsOfRules(unittest.TestCase):
    def test_least_bounds(self):
        self.assertEqual(world_of(THREE, []), [None, None, None])
        self.assertEqual(world_of(THREE, [(0, (5, 1)), (0, (3, 1)), (2, (1, 2))]), [(3, 1), None, (1, 2)])
        self.assertEqual(world_of(THREE, [(0, (3, 1)), (0, (5, 1))]), [(3, 1), None, None])
        self.assertEqual(world_of(THREE, [(1, (1, 2)), (1, (1, 3)), (1, (2, 5))]), [None, (1, 3), None])
        self.assertEqual(world_of(THREE, [(1, (-1, 2)), (1, (-1, 3)), (1, (0, 1))]), [None, (-1, 2), None])
        self.assertEqual(world_of(LINE, [(0, (HUGE + 1, HUGE)), (0, (HUGE, HUGE - 1))]), [(HUGE + 1, HUGE), None])
        self.assertEqual(world_of(THREE, [RULE] * 40), [(0, 1), None, None])


class Opposites(unittest.TestCase):
    def test_opposites(self):
        self.assertEqual(opposites(THREE), [(-1, 0), (0, -1), (1, 1)])
        self.assertEqual(opposites(BOXES2), BOXES2)
        self.assertEqual(opposites(ONE_WAY), [(-1,)])
        self.assertEqual(opposites([(-2, 1, 3), (20, 0, -19)]), [(-20, 0, 19), (2, -1, -3)])

    def test_twice_is_the_book(self):
        for book in BOOKS + random_books():
            self.assertIs(is_book(opposites(book)), True)
            self.assertEqual(opposites(opposites(book)), book)


class Mixing(unittest.TestCase):
    def test_mixed(self):
        self.assertEqual(mixed(BOXES2, ((1, 1), (0, 1))), [(-1, -1), (0, -1), (0, 1), (1, 1)])
        self.assertEqual(mixed(LINE, ((-1,),)), LINE)
        self.assertEqual(mixed(ONE_WAY, ((-1,),)), [(-1,)])
        self.assertEqual(mixed([(1, 2), (3, 5)], ((0, 1), (-1, 3))), [(-5, 18), (-2, 7)])
        self.assertEqual(mixed([(1, 0, 0)], ((1, 2, 3), (0, 1, 4), (0, 0, 1))), [(1, 2, 3)])
        self.assertEqual(mixed([(0, 1, 1)], ((1, 2, 3), (0, 1, 4), (0, 0, 1))), [(0, 1, 5)])

    def test_the_matrix_of_ones(self):
        for book in BOOKS + random_books():
            size = len(book[0])
            ones = tuple([tuple([int(row == at) for at in range(size)]) for row in range(size)])
            self.assertEqual(mixed(book, ones), book)
            turned = tuple([tuple([-item for item in row]) for row in ones])
            self.assertEqual(mixed(book, turned), opposites(book))
            swapped = mixed(book, ones[::-1])
            self.assertEqual(swapped, sorted([kind[::-1] for kind in book]))

    def test_items_of_20_and_beyond(self):
        for step in (18, 19, 20, 21, -19, -20, -21, -22, HUGE):
            if -20 <= step + 1 <= 20:
                self.assertEqual(mixed([(1, 1)], ((1, step), (0, 1))), [(1, step + 1)])
            else:
                with self.assertRaises(TooLarge) as caught:
                    mixed([(1, 1)], ((1, step), (0, 1)))
                self.assertEqual(caught.exception.limit, 20)

    def test_an_item_too_large_in_the_last_kind(self):
        with self.assertRaises(TooLarge):
            mixed([(0, 1), (3, 1)], ((1, 7), (0, 1)))
        self.assertEqual(mixed([(0, 1), (2, 1)], ((1, 7), (0, 1))), [(0, 1), (2, 15)])

    def test_determinants(self):
        large = ((HUGE, HUGE - 1), (HUGE - 1, HUGE - 2))
        good = [((0, 1), (1, 0)), ((2, 1), (1, 1)), ((0, -1), (1, 5)), ((3, 2), (4, 3)), ((-1, 0), (0, 1))]
        for matrix in good:
            self.assertIs(is_book(mixed(QUARTER, matrix)), True, matrix)
        with self.assertRaises(TooLarge):
            mixed(QUARTER, large)
        bad = [((0, 0), (0, 0)), ((1, 1), (1, 1)), ((2, 0), (0, 1)), ((1, 1), (-1, 1)), ((1, 2), (3, 4)),
               ((HUGE, HUGE - 1), (HUGE - 1, HUGE - 3))]
        for matrix in bad:
            with self.assertRaises(InvalidMatrix, msg=matrix):
                mixed(QUARTER, matrix)

    def test_larger_determinants(self):
        five = ((0, 0, 1, 0, 0), (1, 0, 0, 0, 0), (0, 0, 0, 0, 1), (0, 1, 0, 0, 0), (0, 0, 0, 1, 0))
        self.assertEqual(mixed([(1, 2, 3, 4, 5)], five), [(2, 4, 1, 5, 3)])
        dense = ((2, 1, 1), (1, 1, 1), (1, 1, 2))
        self.assertEqual(mixed([(1, -1, 0)], dense), [(1, 0, 0)])
        for matrix in [((2, 1, 1), (1, 1, 1), (1, 1, 3)), ((1, 2, 3), (4, 5, 6), (7, 8, 9)), ((0, 0, 1),) * 3]:
            with self.assertRaises(InvalidMatrix, msg=matrix):
                mixed([(1, -1, 0)], matrix)
        for scale in (2, 0, -3):
            with self.assertRaises(InvalidMatrix):
                mixed([(1, 2, 3, 4, 5)], five[:4] + (tuple([scale * item for item in five[4]]),))

    def test_wrong_matrices(self):
        wrong = [None, (), ((1, 0),), ((1, 0), (0, 1), (0, 0)), [(1, 0), (0, 1)], ([1, 0], [0, 1]), ((1, 0), [0, 1]),
                 ((1, 0), (0, True)), ((True, False), (False, True)), ((1, 0), (0, None)), ((1, 0), (0, 1, 0)),
                 ((1, 0), (1,)), (1, 1), ((1, 0, 0), (0, 1, 0), (0, 0, 1)), ((1,),), ((1, 0), (0, "1")), {(1, 0): 1}]
        for matrix in wrong:
            with self.assertRaises(InvalidMatrix, msg=matrix):
                mixed(BOXES2, matrix)

    def test_which_error_comes_first(self):
        with self.assertRaises(InvalidBook):
            mixed([(2, 2)], None)
        with self.assertRaises(InvalidMatrix):
            mixed([(1, 1)], ((99, 0), (0, 1)))


class Beside(unittest.TestCase):
    def test_beside(self):
        self.assertEqual(beside([(1,)], [(-1,), (1,)]), [(0, -1), (0, 1), (1, 0)])
        self.assertEqual(beside(LINE, LINE), BOXES2)
        self.assertEqual(beside(THREE, [(2, -3, 5)]),
                         [(-1, -1, 0, 0, 0), (0, 0, 2, -3, 5), (0, 1, 0, 0, 0), (1, 0, 0, 0, 0)])
        self.assertEqual(beside([(2, -3, 5)], LINE), [(0, 0, 0, -1), (0, 0, 0, 1), (2, -3, 5, 0)])

    def test_limits(self):
        self.assertEqual(len(beside(TWELVE[:11], ONE_WAY)), 12)
        self.assertEqual(beside([(1, 0, 0, 0)], ONE_WAY), [(0, 0, 0, 0, 1), (1, 0, 0, 0, 0)])
        told = [([(1, 0, 0)], [(1, 0, 0)], 5), ([(1, 0, 0, 0, 0)], ONE_WAY, 5), (TWELVE, ONE_WAY, 12),
                (TWELVE[:6], TWELVE[:7], 12), (BOXES5, BOXES5, 5), (BOXES5, LINE, 5)]
        for book, other_book, limit in told:
            with self.assertRaises(TooLarge) as caught:
                beside(book, other_book)
            self.assertEqual(caught.exception.limit, limit)

    def test_which_error_comes_first(self):
        three_unknowns = [(1, 0, at) for at in range(7)]
        with self.assertRaises(TooLarge) as caught:
            beside(three_unknowns, three_unknowns)
        self.assertEqual(caught.exception.limit, 5)
        for book, other_book in [(None, TILTED), (TILTED, None), (TWELVE + [(1, 12)], ONE_WAY), (BOXES5, [(2,)])]:
            with self.assertRaises(InvalidBook):
                beside(book, other_book)


if __name__ == "__main__":
    unittest.main()
