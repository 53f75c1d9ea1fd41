"""The reckoning that kinds.py and knots.py share: tables of integers, fractions, and weights for some unknowns."""

import unittest

from clashsize.knots import balances
from clashsize.ratios import at_most, dot, lowest
from clashsize.tables import common_divisor, determinant, inner, rank_of


class Tables(unittest.TestCase):
    def test_common_divisors(self):
        told = [([], 0), ([0, 0], 0), ([0, -4], 4), ([6, 10, 15], 1), ((12, -18), 6)]
        self.assertEqual([common_divisor(numbers) for numbers, _ in told], [answer for _, answer in told])

    def test_inner(self):
        self.assertEqual([inner((), ()), inner([2, -3], (5, 7))], [0, -11])

    def test_ranks_of_any_rows(self):
        told = [([], 0), ([(0, 0)], 0), ([(0, 0), (0, 2), (0, 0), (0, -4)], 1), ([[2, 4], [3, 6]], 1),
                ([(0, 1, 2), (1, 0, 2), (0, 0, 0), (1, 1, 4)], 2), ([(), ()], 0)]
        for rows, answer in told:
            self.assertEqual(rank_of(rows), answer, rows)

    def test_determinants(self):
        told = [((), 1), (((-7,),), -7), (((0, 1), (1, 0)), -1), (((1, 2), (3, 4)), -2),
                (((0, 2, 0), (0, 0, 3), (5, 0, 0)), 30), (((2, 1, 1), (1, 1, 1), (1, 1, 3)), 2)]
        for rows, answer in told:
            self.assertEqual(determinant(rows), answer, rows)


class Ratios(unittest.TestCase):
    def test_lowest_terms(self):
        self.assertEqual([lowest(0, 5), lowest(-6, 4), lowest(7, 7)], [(0, 1), (-3, 2), (1, 1)])

    def test_dot(self):
        self.assertEqual(dot((3, -1), ((1, 6), (1, 2))), (0, 1))

    def test_at_most(self):
        told = [((1, 3), (1, 2), True), ((1, 2), (1, 3), False), ((-1, 2), (-1, 3), True), ((2, 5), (2, 5), True)]
        for one, two, answer in told:
            self.assertIs(at_most(one, two), answer)


class Balances(unittest.TestCase):
    def test_some_unknowns(self):
        kinds = [(-1, 1), (0, -1), (1, 1)]
        self.assertEqual(balances(kinds, [1]), [[(0, 1), (1, 1)], [(1, 1), (2, 1)]])
        self.assertEqual(balances(kinds, [0]), [[(0, 1), (2, 1)], [(1, 1)]])
        self.assertEqual(balances(kinds, []), [[(0, 1)], [(1, 1)], [(2, 1)]])
        self.assertEqual(balances(kinds, [0, 1]), [[(0, 1), (1, 2), (2, 1)]])


if __name__ == "__main__":
    unittest.main()
