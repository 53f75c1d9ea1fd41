"""The reckoning that the files share: tables of integers, fractions, weights for some unknowns, and searches."""

import random
import unittest
from fractions import Fraction

from clashsize.knots import balances, unit_rays
from clashsize.ratios import at_most, divided, dot, integers, least, lowest, minus, most, negative, plus, times
from clashsize.searches import direction_below, point_below
from clashsize.spans import greatest_size
from clashsize.tables import common_divisor, determinant, inner, mask_of, opposite, rank_of, reduced

from elimination import slow_meet
from samples import HUGE, as_fraction, pair_of, random_book, random_fraction, slow_dot, slow_knots, slow_rank


class Tables(unittest.TestCase):
    def test_common_divisors(self):
        told = [([], 0), ([0, 0], 0), ([0, -4], 4), ([6, 10, 15], 1), ((12, -18), 6)]
        self.assertEqual([common_divisor(numbers) for numbers, _ in told], [answer for _, answer in told])

    def test_inner(self):
        self.assertEqual([inner((), ()), inner([2, -3], (5, 7))], [0, -11])

    def test_ranks_of_any_rows(self):
        told = [([], 0), ([(0, 0)], 0), ([(0, 0), (0, 2), (0, 0), (0, -4)], 1), ([[2, 4], [3, 6]], 1),
                ([(0, 1, 2), (1, 0, 2), (0, 0, 0), (1, 1, 4)], 2), ([(), ()], 0)]
        for rows, answer in told:
            self.assertEqual(rank_of(rows), answer, rows)

    def test_determinants(self):
        told = [((), 1), (((-7,),), -7), (((0, 1), (1, 0)), -1), (((1, 2), (3, 4)), -2),
                (((0, 2, 0), (0, 0, 3), (5, 0, 0)), 30), (((2, 1, 1), (1, 1, 1), (1, 1, 3)), 2)]
        for rows, answer in told:
            self.assertEqual(determinant(rows), answer, rows)

    def test_opposites_and_masks(self):
        self.assertEqual([opposite((1, 0, -2)), opposite([3]), opposite(())], [(-1, 0, 2), (-3,), ()])
        self.assertEqual([mask_of([]), mask_of([0]), mask_of([3, 1]), mask_of((70,))], [0, 1, 10, 2 ** 70])

    def test_reduced_tables(self):
        self.assertEqual([reduced([]), reduced([(0, 0)]), reduced([[2, 4], [3, 6]])], [[], [], [[2, 4]]])
        self.assertEqual(reduced([(1, 0, 1), (0, 1, 1)]), [[1, 0, 1], [0, 1, 1]])

    def test_reduced_tables_have_a_place_for_each_row(self):
        source = random.Random(27)
        for _ in range(200):
            shape = (source.randint(1, 5), source.randint(1, 8))
            rows = [tuple([source.randint(-3, 3) for _ in range(shape[1])]) for _ in range(shape[0])]
            found = reduced(rows)
            self.assertEqual(len(found), slow_rank(rows))
            self.assertEqual(slow_rank(rows + [tuple(row) for row in found]), len(found))
            for row in found:
                alone = [at for at in range(shape[1]) if row[at] != 0 and not any(
                    [other[at] for other in found if other is not row])]
                self.assertTrue(alone)


class Ratios(unittest.TestCase):
    def test_lowest_terms(self):
        self.assertEqual([lowest(0, 5), lowest(-6, 4), lowest(7, 7)], [(0, 1), (-3, 2), (1, 1)])

    def test_dot(self):
        self.assertEqual([dot((3, -1), ((1, 6), (1, 2))), dot((), ())], [(0, 1), (0, 1)])

    def test_at_most(self):
        told = [((1, 3), (1, 2), True), ((1, 2), (1, 3), False), ((-1, 2), (-1, 3), True), ((2, 5), (2, 5), True)]
        for one, two, answer in told:
            self.assertIs(at_most(one, two), answer)

    def test_against_fractions(self):
        source = random.Random(28)
        for _ in range(200):
            one, two = random_fraction(source), random_fraction(source)
            first, second = as_fraction(one), as_fraction(two)
            self.assertEqual(plus(one, two), pair_of(first + second))
            self.assertEqual(minus(one, two), pair_of(first - second))
            self.assertEqual(times(one, two), pair_of(first * second))
            self.assertEqual(negative(one), pair_of(-first))
            self.assertEqual(least([one, two, (0, 1)]), pair_of(min(first, second, 0)))
            self.assertEqual(most([one, two, (0, 1)]), pair_of(max(first, second, 0)))
            if second != 0:
                self.assertEqual(divided(one, two), pair_of(first / second))

    def test_least_and_most_of_none(self):
        self.assertEqual([least([]), most([]), least([(3, 2)]), most([(-3, 2)])], [None, None, (3, 2), (-3, 2)])

    def test_integers(self):
        told = [([], []), ([(3, 1)], [3]), ([(1, 2), (-1, 3), (0, 1)], [3, -2, 0]), ([(1, 4), (5, 6)], [3, 10]),
                ([(1, HUGE), (2, 1)], [1, 2 * HUGE])]
        for given, answer in told:
            self.assertEqual(integers(given), answer, given)


class Balances(unittest.TestCase):
    def test_some_unknowns(self):
        kinds = [(-1, 1), (0, -1), (1, 1)]
        self.assertEqual(balances(kinds, [1]), [[(0, 1), (1, 1)], [(1, 1), (2, 1)]])
        self.assertEqual(balances(kinds, [0]), [[(0, 1), (2, 1)], [(1, 1)]])
        self.assertEqual(balances(kinds, []), [[(0, 1)], [(1, 1)], [(2, 1)]])
        self.assertEqual(balances(kinds, [0, 1]), [[(0, 1), (1, 2), (2, 1)]])

    def test_unit_rays(self):
        self.assertEqual([unit_rays(0), unit_rays(1), unit_rays(2)], [[], [[1]], [[1, 0], [0, 1]]])


class Spans(unittest.TestCase):
    def test_told_rows(self):
        told = [([], 0), ([(1,)], 0), ([(1,), (-1,)], 2), ([(0, 1), (0, -1)], 2), ([(0, 1), (1, 0)], 0),
                ([(HUGE, 1), (-HUGE, 0), (0, -1)], 3), ([(HUGE, 1), (-HUGE, 0), (0, 1)], 0),
                ([(1, 0, 0), (-1, 0, 0), (0, 1, 0), (0, -1, 0), (0, 0, 1), (1, 1, 0), (-1, -1, 0)], 3),
                ([(1, 0, 1), (-1, 0, 0), (0, 1, 0), (0, -1, 0), (0, 0, -1)], 3)]
        for rows, answer in told:
            self.assertEqual(greatest_size(rows), answer, rows)

    def test_against_a_look_at_each_set(self):
        source = random.Random(30)
        answers = []
        for unknowns in (1, 2, 3, 4):
            for count in (2, 4, 6, 9):
                for _ in range(15):
                    rows = random_book(source, unknowns, min(count, 2 if unknowns == 1 else 6), source.choice([1, 1, 3]))
                    # Rows in a plane of one unknown more.
                    longer = [row + (sum(row),) for row in rows]
                    answers.append(max([len(knot) for knot in slow_knots(rows)], default=0))
                    self.assertEqual([greatest_size(rows), greatest_size(longer)], [answers[-1]] * 2, rows)
        self.assertEqual({0, 2, 3, 4, 5}, set(answers))


class Searches(unittest.TestCase):
    def test_no_rows(self):
        self.assertEqual([point_below([], [], 2), direction_below([], [], 3)], [((0, 1), (0, 1)), (0, 0, 0)])

    def test_one_unknown(self):
        told = [([(-2, 1), (3, 1)], ((2, 1),)), ([(3, 1), (-2, 1)], ((-2, 1),)), ([(3, 1), (2, 1)], ((0, 1),)),
                ([(-3, 2), (3, 2)], ((3, 2),)), ([(-2, 1), (1, 1)], None)]
        for bounds, answer in told:
            self.assertEqual(point_below([(-1,), (1,)], bounds, 1), answer, bounds)

    def test_rows_of_zeros(self):
        self.assertEqual(point_below([(0, 0), (1, 0)], [(0, 1), (-1, 1)], 2), ((-1, 1), (0, 1)))
        self.assertIsNone(point_below([(0, 0), (1, 0)], [(-1, HUGE), (5, 1)], 2))

    def test_directions(self):
        rows = [(2, 0), (-3, 2), (0, -7)]
        found = direction_below(rows[:2], [(-1, 1), (-1, 1)], 2)
        self.assertTrue(all([inner(row, found) < 0 for row in rows[:2]]))
        self.assertEqual([type(item) for item in found], [int, int])
        self.assertIsNone(direction_below(rows, [(-1, 1)] * 3, 2))

    def test_against_an_elimination(self):
        source = random.Random(29)
        answers = []
        for count in (1, 2, 3, 4, 5):
            for size in (1, 3, 5, 7, 8):
                for _ in range(6):
                    rows = [tuple([source.randint(-3, 3) for _ in range(count)]) for _ in range(size)]
                    bounds = [random_fraction(source, 5) for _ in rows]
                    found = point_below(rows, bounds, count)
                    answers.append(found is not None)
                    self.assertIs(answers[-1], slow_meet([(row, as_fraction(bound), False)
                                                          for row, bound in zip(rows, bounds)]))
                    if found is not None:
                        self.assertEqual([pair_of(Fraction(*item)) for item in found], list(found))
                        for row, bound in zip(rows, bounds):
                            self.assertLessEqual(slow_dot(row, found), as_fraction(bound))
        self.assertGreater(min(answers.count(True), answers.count(False)), 20)


if __name__ == "__main__":
    unittest.main()
