"""The slow judge of the tests is right about rows that one can see through."""

import unittest
from fractions import Fraction

from elimination import limits, rows_of, rule_rows, slow_greatest, slow_meet

from samples import BOXES2, LINE, SIX, THREE

SQUARE = rows_of(BOXES2, [(0, 1), (0, 1), (3, 1), (2, 1)])


class Elimination(unittest.TestCase):
    def test_rows(self):
        self.assertEqual(rows_of(LINE, [None, (1, 2)], True), [((1,), Fraction(1, 2), True)])
        self.assertEqual(rule_rows(LINE, [(1, (1, 2)), (0, (3, 1))]),
                         [((1,), Fraction(1, 2), False), ((-1,), Fraction(3), False)])

    def test_meeting(self):
        for bound, answer in [(1, True), (0, True), (-1, False)]:
            self.assertIs(slow_meet(rows_of(LINE, [(0, 1), (bound, 1)])), answer)
            self.assertIs(slow_meet(rows_of(THREE, [(0, 1), (bound, 1), (0, 1)])), answer)
            self.assertIs(slow_meet(rows_of(SIX, [(0, 1)] * 5 + [(bound, 1)])), answer)
        self.assertIs(slow_meet(rows_of(LINE, [(0, 1), (0, 1)], True)), False)
        self.assertIs(slow_meet(rows_of(LINE, [(1, 1), (0, 1)], True)), True)
        self.assertIs(slow_meet([]), True)

    def test_limits(self):
        self.assertEqual([limits(SQUARE, 0), limits(SQUARE, 1)], [(0, 2), (0, 3)])
        self.assertEqual(limits(rows_of(BOXES2, [None, None, (3, 1), None]), 1), (None, 3))
        self.assertEqual(limits(rows_of(BOXES2, [None, None, (3, 1), None]), 0), (None, None))
        self.assertEqual(limits(rows_of(THREE, [(-1, 2), (2, 1), (1, 3)]), 0), (Fraction(-3, 2), Fraction(1, 3)))

    def test_greatest(self):
        told = [((1, 1), 5), ((2, -3), 4), ((-1, 0), 0), ((0, 0), 0), ((0, 7), 21)]
        for goal, answer in told:
            self.assertEqual(slow_greatest(SQUARE, goal), answer, goal)
        self.assertEqual(slow_greatest(SQUARE[:3], (0, 1)), 3)
        self.assertIsNone(slow_greatest(SQUARE[:3], (1, 1)))


if __name__ == "__main__":
    unittest.main()
