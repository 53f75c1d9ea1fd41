"""The examples of the document, as they are written there."""

import doctest
import unittest
from pathlib import Path

BOOKS = """
>>> boxes2 = [(-1, 0), (0, -1), (0, 1), (1, 0)]
>>> three = [(-1, -1), (0, 1), (1, 0)]
>>> tilted = [(-1, -1), (-1, 1), (1, -1), (1, 1)]
"""

KINDS = """
>>> from clashsize.kinds import beside, is_book, mixed, obeys, product, rank, world_of
>>> [is_book(three), is_book([(2, 2)]), rank(three), product(three, (2, 5), ((1, 2), (1, 5))), beside([(1,)], [(-1,), (1,)])]
[True, False, 2, (2, 1), [(0, -1), (0, 1), (1, 0)]]
>>> [mixed(boxes2, ((1, 1), (0, 1))), world_of(three, [(0, (5, 1)), (0, (3, 1)), (2, (1, 2))]), obeys(three, [(0, (0, 1)), (2, (1, 2))], ((1, 2), (0, 1)))]
[[(-1, -1), (0, -1), (0, 1), (1, 1)], [(3, 1), None, (1, 2)], True]
"""

KNOTS = """
>>> from clashsize.knots import clash_size, greatest_knot, is_knot, knot_numbers, knots, knots_with
>>> [knots(boxes2), knots(three), knot_numbers(three), clash_size(tilted), greatest_knot(boxes2), knots_with(tilted, 1), is_knot(three, [(0, 2), (1, 2), (2, 2)])]
[[[(0, 1), (3, 1)], [(1, 1), (2, 1)]], [[(0, 1), (1, 1), (2, 1)]], [0, 1], 2, [(0, 1), (3, 1)], [[(1, 1), (2, 1)]], False]
"""


class Examples(unittest.TestCase):
    def check(self, name, text, number):
        """All examples of a text hold, and none was passed over."""
        told = []
        test = doctest.DocTestParser().get_doctest(BOOKS + "\n" + text, {}, name, None, 0)
        results = doctest.DocTestRunner(verbose=False).run(test, out=told.append)
        self.assertEqual((results.failed, results.attempted), (0, number), "".join(told))

    def test_kinds(self):
        self.check("kinds", KINDS, 6)

    def test_knots(self):
        self.check("knots", KNOTS, 5)

    def test_readme(self):
        readme = Path(__file__).resolve().parent.parent / "README.md"
        # The fences end the examples as blank lines would.
        self.check("readme", readme.read_text().replace("```", ""), 12)


if __name__ == "__main__":
    unittest.main()
