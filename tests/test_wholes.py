"""Promise 28, with 12: whole points, whole sizes, crosses and level books."""

import random
import unittest
from fractions import Fraction
from itertools import combinations, permutations
from math import ceil, floor

from clashsize.errors import InvalidBook, InvalidCross, InvalidWorld, NoKnot, TooLarge, Undecided
from clashsize.families import boxes, differences
from clashsize.kinds import is_book, is_in, is_point, is_rules, is_world, mixed, obeys, opposites
from clashsize.knots import clash_size
from clashsize.wholes import bases_between, cross, cross_rules, is_cross, is_level, middle, rounded, whole_forcing, whole_size

from elimination import limits, rule_rows, slow_meet
from samples import BOOKS, BOXES2, BOXES5, CURVE, DIFFERENCES4, HUGE, LEAN, LINE, ODD_VALUES, ONE_WAY, QUARTER, SIGN, SIX
from samples import THREE, TILTED, TWELVE, as_fraction, random_book, random_books, random_world, slow_dot

MANY = BOOKS + random_books() + [CURVE, DIFFERENCES4, TWELVE, LEAN]
STEEP = [(-1, -2), (-1, 0), (1, 0), (1, 2)]
# Lines that are close to one another: the bases of its crosses are long ones.
NARROW = [(-20, -19), (-18, -17), (18, 17), (20, 19)]


def flat_books():
    """Books with two unknowns, with and without a cross."""
    source = random.Random(80)
    shapes = [(3, 1), (4, 1), (6, 1), (3, 2), (4, 2), (5, 2), (7, 2), (4, 3), (5, 3), (8, 3), (4, 4), (5, 5), (12, 5)]
    return [random_book(source, 2, *shape) for shape in shapes for _ in range(8)] + [STEEP, BOXES2, THREE, TILTED, LEAN]


def slow_product(kind, point):
    return kind[0] * point[0] + kind[1] * point[1]


def slow_cross(book):
    """Whether a book with two unknowns has a cross.

    If kind . a, kind . b and other . a are above 0 and other . b below 0, their sum kind . a + other . a is at most the
    determinant of both kinds, so that the items of a (and of b) are at most those of the kinds.
    """
    reach = max([abs(item) for kind in book for item in kind])
    points = [(x, y) for x in range(-reach, reach + 1) for y in range(-reach, reach + 1)]
    for one in points:
        for two in points:
            if abs(one[0] * two[1] - one[1] * two[0]) == 1:
                signs = {(slow_product(kind, one) > 0, slow_product(kind, two) > 0) for kind in book
                         if slow_product(kind, one) != 0 and slow_product(kind, two) != 0}
                if len(signs) == 4:
                    return True
    return False


def slow_determinant(rows):
    """A determinant as the sum over all orders."""
    total = 0
    for order in permutations(range(len(rows))):
        part = 1
        for row, at in zip(rows, order):
            part = part * row[at]
        turns = len([1 for one, two in combinations(order, 2) if one > two])
        total = total + (-part if turns % 2 else part)
    return total


def slow_level(book):
    """Whether all square parts have determinants 0, 1 or -1."""
    for size in range(1, len(book[0]) + 1):
        for rows in combinations(book, min(size, len(book))):
            for places in combinations(range(len(book[0])), len(rows)):
                if abs(slow_determinant([[row[place] for place in places] for row in rows])) > 1:
                    return False
    return True


def has_whole_point(book, rules):
    """Whether a whole point of two unknowns obeys all rules, by a look at each first item that it can have."""
    rows = rule_rows(book, rules)
    if not slow_meet(rows):
        return False
    low, high = limits(rows, 0)
    # Where there is no end, a point is never far, as items and bounds are small.
    low = low if low is not None else (high if high is not None else 0) - 99
    high = high if high is not None else low + 99
    for first in range(ceil(low), floor(high) + 1):
        ends = [(kind[1], bound - kind[0] * first) for kind, bound, _ in rows]
        if all([rest >= 0 for item, rest in ends if item == 0]):
            lows = [ceil(rest / item) for item, rest in ends if item < 0]
            highs = [floor(rest / item) for item, rest in ends if item > 0]
            if not lows or not highs or max(lows) <= min(highs):
                return True
    return False


class Level(unittest.TestCase):
    def test_told_books(self):
        told = [(THREE, True), (TILTED, False), (BOXES2, True), (LINE, True), (ONE_WAY, True), (QUARTER, True), (SIX, True),
                (BOXES5, True), (DIFFERENCES4, True), (CURVE, False), (TWELVE, False), (LEAN, False), (STEEP, False),
                ([(1, 2)], False), ([(1, -1)], True), ([(-1, 1), (1, 1)], False), ([(0, 1), (1, 1)], True),
                ([(0, 1, 1), (1, 0, 1), (1, 1, 0)], False), ([(0, 1, 1), (1, 1, 0), (1, 1, 1)], True)]
        for book, answer in told:
            self.assertIs(is_level(book), answer, book)

    def test_a_determinant_of_three_and_of_four_rows(self):
        self.assertIs(is_level([(0, 1, 1), (1, 0, 1)]), True)
        book = [(0, 0, 1, 1), (0, 1, 1, 0), (1, 0, 0, 1), (1, 1, 0, 0)]
        self.assertIs(is_level(book), True)
        self.assertIs(is_level(book[:3] + [(1, -1, 0, 0)]) if is_book(book[:3] + [(1, -1, 0, 0)]) else None, None)
        self.assertIs(is_level(sorted(book[:3] + [(1, -1, 0, 0)])), False)

    def test_against_all_square_parts(self):
        source = random.Random(81)
        answers = []
        books = [book for book in MANY if len(book) <= 8] + [differences(3), differences(4)[:8]]
        for _ in range(60):
            unknowns = source.randint(2, 4)
            books.append(random_book(source, unknowns, source.randint(2, 4), 1))
        for book in books:
            answers.append(slow_level(book))
            self.assertIs(is_level(book), answers[-1], book)
        self.assertGreater(min(answers.count(True), answers.count(False)), 10)


class Sizes(unittest.TestCase):
    def test_told_books(self):
        told = [(TILTED, 4), (BOXES2, 2), (THREE, 3), (STEEP, 4), (LINE, 2), (ONE_WAY, 0), ([(-1,)], 0), (QUARTER, 0),
                (SIX, 6), (BOXES5, 2), (DIFFERENCES4, 4), (TWELVE, 0), ([(-1, 1), (1, 1)], 0), ([(-1, -2), (1, 2)], 2),
                ([(-3, -5), (1, 3), (3, 1)], 3), (NARROW, 4), (boxes(3), 2)]
        for book, answer in told:
            self.assertEqual(whole_size(book), answer, book)

    def test_crosses_and_clash_sizes(self):
        sizes = []
        for book in flat_books():
            sizes.append(whole_size(book))
            self.assertEqual(sizes[-1], 4 if slow_cross(book) else clash_size(book), book)
        self.assertGreater(min([sizes.count(size) for size in (0, 2, 3, 4)]), 3)

    def test_two_pairs_of_opposites(self):
        source = random.Random(82)
        for _ in range(60):
            one, two = random_book(source, 2, 2, 20)
            turn = one[0] * two[1] - one[1] * two[0]
            if turn != 0:
                book = sorted([one, two, (-one[0], -one[1]), (-two[0], -two[1])])
                self.assertEqual(whole_size(book), 2 if abs(turn) == 1 else 4, book)

    def test_level_books(self):
        for book in MANY + flat_books() + [differences(3), boxes(3), boxes(4)]:
            if is_level(book):
                self.assertEqual(whole_size(book), clash_size(book))
            if is_level(book) or len(book[0]) < 3:
                self.assertLessEqual(whole_size(book), 2 ** len(book[0]))

    def test_undecided_books(self):
        for book in [CURVE, [(1, 2, 0)], [(-1, 1, 0), (1, 1, 0)], [(0, 0, 0, 1, 2)]]:
            for call in (whole_size, whole_forcing):
                with self.assertRaises(Undecided):
                    call(book)

    def test_a_change_of_the_unknowns_changes_nothing(self):
        source = random.Random(83)
        for book in flat_books():
            matrix = source.choice([((1, 1), (0, 1)), ((2, 1), (1, 1)), ((0, -1), (1, 3)), ((1, 0), (-2, -1))])
            if max([abs(item) for kind in book for item in kind]) <= 4:
                self.assertEqual(whole_size(mixed(book, matrix)), whole_size(book))
            self.assertEqual(whole_size(opposites(book)), whole_size(book))

    def test_smallest_clashes_of_whole_points_are_no_greater(self):
        source = random.Random(84)
        found = []
        for book in [book for book in flat_books() if len(book) <= 8]:
            for _ in range(25):
                rules = [(number, (source.randint(-2, 3), 1)) for number in range(len(book))]
                source.shuffle(rules)
                if not has_whole_point(book, rules):
                    for rule in list(rules):
                        fewer = [other for other in rules if other != rule]
                        if not has_whole_point(book, fewer):
                            rules = fewer
                    found.append(len(rules))
                    self.assertLessEqual(len(rules), whole_size(book), (book, rules))
        self.assertGreater(min([found.count(size) for size in (2, 3, 4)]), 5)


class Crosses(unittest.TestCase):
    def test_each_book(self):
        for book in flat_books() + [NARROW, TWELVE]:
            found = cross(book)
            self.assertIs(found is not None, slow_cross(book), book)
            if found is not None:
                self.assertEqual([type(item) for item in found], [tuple] * 3)
                self.check_signs(book, found)
                self.assertIs(is_cross(book, found), True)

    def check_signs(self, book, sign):
        one, two, numbers = sign
        self.assertEqual(abs(one[0] * two[1] - one[1] * two[0]), 1)
        signs = [(slow_product(book[number], one), slow_product(book[number], two)) for number in numbers]
        self.assertNotIn(0, [item for pair in signs for item in pair])
        self.assertEqual([(first > 0, second > 0) for first, second in signs],
                         [(True, True), (True, False), (False, True), (False, False)])

    def test_great_items(self):
        source = random.Random(85)
        found = 0
        for _ in range(25):
            book = random_book(source, 2, source.choice([4, 6, 12]), 20)
            sign = cross(book)
            if sign is not None:
                found = found + 1
                self.check_signs(book, sign)
            self.assertEqual(whole_size(book), clash_size(book) if sign is None else 4)
        self.assertGreater(found, 5)

    def test_all_bases_between_two_kinds(self):
        source = random.Random(87)
        numbers = []
        for _ in range(60):
            kind, other = random_book(source, 2, 2, source.choice([2, 4, 7]))
            reach = max([abs(item) for item in kind + other])
            points = [(x, y) for x in range(-reach, reach + 1) for y in range(-reach, reach + 1)]
            ahead = [point for point in points if slow_product(kind, point) > 0 and slow_product(other, point) > 0]
            behind = [point for point in points if slow_product(kind, point) > 0 > slow_product(other, point)]
            answer = [(one, two) for one in ahead for two in behind if abs(one[0] * two[1] - one[1] * two[0]) == 1]
            found = bases_between(kind, other)
            numbers.append(len(found))
            self.assertEqual(sorted(found), sorted(answer), (kind, other))
        self.assertTrue(0 in numbers and max(numbers) > 6)
        self.assertEqual(bases_between((1, -3), (-1, 3)), [])

    def test_one_cross_alone(self):
        """Four kinds that only few bases divide."""
        for matrix in [((1, 0), (0, 1)), ((3, 2), (4, 3)), ((5, 3), (3, 2)), ((1, 19), (0, 1)), ((9, 10), (8, 9))]:
            book = mixed(TILTED, matrix)
            self.check_signs(book, cross(book))

    def test_told_values(self):
        one, two, numbers = SIGN
        told = [(SIGN, True), ((one, two, numbers[::-1]), False), (((-1, 0), (0, -1), numbers[::-1]), True),
                ((two, one, (3, 1, 2, 0)), True), ((two, one, numbers), False), (((1, 0), (0, -1), (2, 3, 0, 1)), True),
                ((one, one, numbers), False), (((2, 0), (0, 1), numbers), False), (((1, 0), (1, 1), numbers), False),
                ((one, two), False), ((one, two, numbers, numbers), False), ([one, two, numbers], False),
                ((list(one), two, numbers), False), ((one, two, list(numbers)), False), ((one, two, (3, 2, 1)), False),
                ((one, two, (3, 2, 1, 0, 0)), False), ((one, two, (3, 2, 1, 4)), False), ((one, two, (3, 2, 1, -4)), False),
                (((1, 0, 0), (0, 1, 0), numbers), False), ((one, (False, True), numbers), False),
                (((True, 0), two, numbers), False), ((one, two, (3, 2, True, False)), False), ((one, two, (3, 3, 1, 0)), False)]
        for value, answer in told:
            self.assertIs(is_cross(TILTED, value), answer, value)

    def test_products_that_are_0(self):
        self.assertIs(is_cross(BOXES2, SIGN), False)
        self.assertIs(is_cross(sorted(TILTED + [(1, 0)]), ((1, 0), (0, 1), (4, 3, 1, 0))), False)
        self.assertIs(is_cross(sorted(TILTED + [(1, 0)]), ((1, 0), (0, 1), (4, 2, 1, 0))), True)

    def test_long_bases(self):
        """The items of a and b have no limit."""
        book = [(-1, -1), (-1, 1), (1, -1), (1, 1)]
        self.assertIs(is_cross(book, ((HUGE, HUGE - 1), (1, 1), (3, 2, 1, 0))), False)
        self.assertIs(is_cross(book, ((1, 0), (HUGE, 1), (3, 2, 1, 0))), False)

    def test_other_numbers_of_unknowns(self):
        for book in (LINE, ONE_WAY, SIX, BOXES5, CURVE):
            with self.assertRaises(TooLarge) as caught:
                cross(book)
            self.assertEqual(caught.exception.limit, 2)
            self.assertIs(is_cross(book, SIGN), False)
            for call in (cross_rules, middle):
                with self.assertRaises(InvalidCross):
                    call(book, SIGN)
        for ahead, behind in [((), (0,)), ((0,), ()), ((), (0, 0, 0))]:
            self.assertIs(is_cross([ahead + kind + behind for kind in TILTED], SIGN), False)
            wide = (ahead + SIGN[0] + behind, ahead + SIGN[1] + behind, SIGN[2])
            self.assertIs(is_cross([ahead + kind + behind for kind in TILTED], wide), False)

    def test_any_value(self):
        for value in ODD_VALUES:
            self.assertIs(is_cross(TILTED, value), False)
            for at in range(3):
                changed = SIGN[:at] + (value,) + SIGN[at + 1:]
                self.assertIs(is_cross(TILTED, changed), False)
                for call in (cross_rules, middle):
                    with self.assertRaises(InvalidCross):
                        call(TILTED, changed)


class CrossRules(unittest.TestCase):
    def test_told_crosses(self):
        told = [(TILTED, SIGN, [(3, (1, 1)), (2, (0, 1)), (1, (0, 1)), (0, (-1, 1))]),
                (TILTED, ((0, 1), (1, 0), (3, 1, 2, 0)), [(3, (1, 1)), (1, (0, 1)), (2, (0, 1)), (0, (-1, 1))]),
                (TILTED, ((-1, 0), (0, -1), (0, 1, 2, 3)), [(0, (1, 1)), (1, (0, 1)), (2, (0, 1)), (3, (-1, 1))]),
                (STEEP, ((1, 0), (-1, 1), (3, 2, 1, 0)), [(3, (1, 1)), (2, (0, 1)), (1, (0, 1)), (0, (-1, 1))])]
        for book, sign, answer in told:
            self.assertEqual(cross_rules(book, sign), answer, sign)

    def test_each_cross(self):
        crosses = 0
        for book in flat_books() + [NARROW]:
            sign = cross(book)
            if sign is not None:
                crosses = crosses + 1
                rules = cross_rules(book, sign)
                self.assertEqual([number for number, _ in rules], list(sign[2]))
                self.assertIs(is_rules(book, rules), True)
                self.assertIs(has_whole_point(book, rules), False)
                self.check_bounds(book, sign, rules)
                self.check_middle(book, sign, rules)
        self.assertGreater(crosses, 20)

    def check_bounds(self, book, sign, rules):
        one, two, _ = sign
        corners = [(0, 0), one, two, (one[0] + two[0], one[1] + two[1])]
        for number, bound in rules:
            self.assertEqual(bound, (max([slow_product(book[number], corner) for corner in corners]) - 1, 1))

    def check_middle(self, book, sign, rules):
        found = middle(book, sign)
        self.assertIs(is_point(book, found), True)
        self.assertIs(obeys(book, rules, found), True)

    def test_wrong_crosses(self):
        for call in (cross_rules, middle):
            for sign in [None, SIGN[:2], list(SIGN), ((1, 0), (0, 2), SIGN[2]), SIGN[:2] + ((0, 1, 2, 3),)]:
                with self.assertRaises(InvalidCross):
                    call(TILTED, sign)
            with self.assertRaises(InvalidBook):
                call(TILTED[::-1], None)
            with self.assertRaises(InvalidCross):
                call(THREE, SIGN)


class Forcing(unittest.TestCase):
    def test_each_book(self):
        sizes = []
        for book in MANY + flat_books() + [NARROW, differences(3), boxes(3)]:
            if len(book[0]) <= 2 or is_level(book):
                size = whole_size(book)
                sizes.append(size)
                if size == 0:
                    with self.assertRaises(NoKnot):
                        whole_forcing(book)
                else:
                    self.check(book, size)
        self.assertEqual({0, 2, 3, 4, 6}, set(sizes))

    def check(self, book, size):
        found = whole_forcing(book)
        self.assertIs(type(found), tuple)
        rules, points = found
        self.assertEqual((type(rules), type(points), len(rules), len(points)), (list, list, size, size))
        self.assertIs(is_rules(book, rules), True)
        self.assertEqual({bound[1] for _, bound in rules}, {1})
        self.assertEqual(len({number for number, _ in rules}), size)
        for at, point in enumerate(points):
            self.assertIs(is_point(book, point), True)
            self.assertEqual({item[1] for item in point}, {1})
            for index, (number, bound) in enumerate(rules):
                self.assertIs(slow_dot(book[number], point) <= as_fraction(bound), index != at)
        if len(book[0]) == 2:
            self.assertIs(has_whole_point(book, rules), False)
        else:
            self.assertIs(slow_meet(rule_rows(book, rules)), False)

    def test_which_error_comes_first(self):
        with self.assertRaises(Undecided):
            whole_forcing([(1, 2, 3)])
        with self.assertRaises(NoKnot):
            whole_forcing([(1, 2)])
        with self.assertRaises(NoKnot):
            whole_forcing([(0, 0, 1)])
        for call in (is_level, whole_size, cross, whole_forcing, lambda book: is_cross(book, SIGN),
                     lambda book: rounded(book, None)):
            for book in ODD_VALUES + [[], TILTED[::-1]]:
                with self.assertRaises(InvalidBook):
                    call(book)


class Rounded(unittest.TestCase):
    def test_told_worlds(self):
        told = [((7, 2), (3, 1)), ((-7, 2), (-4, 1)), ((-1, 3), (-1, 1)), ((1, 3), (0, 1)), ((0, 1), (0, 1)), ((5, 1), (5, 1)),
                ((-5, 1), (-5, 1)), ((-1, HUGE), (-1, 1)), ((HUGE, HUGE - 1), (1, 1)), ((HUGE, 2), (HUGE // 2, 1)), (None, None)]
        for bound, answer in told:
            self.assertEqual(rounded(LINE, [bound, (1, 2)]), [answer, (0, 1)])

    def test_whole_points_stay(self):
        source = random.Random(86)
        for book in MANY:
            world = random_world(source, book)
            found = rounded(book, world)
            self.assertIs(is_world(book, found), True)
            for bound, new in zip(world, found):
                self.assertEqual(new is None, bound is None)
                if bound is not None:
                    self.assertEqual(as_fraction(new), Fraction(floor(as_fraction(bound))))
            for _ in range(5):
                point = tuple([(source.randint(-4, 4), 1) for _ in book[0]])
                self.assertIs(is_in(book, world, point), is_in(book, found, point))

    def test_wrong_worlds(self):
        for world in [None, [None], [None] * 3, ((0, 1), (0, 1)), [(2, 2), None], [0, 0]]:
            with self.assertRaises(InvalidWorld):
                rounded(LINE, world)


if __name__ == "__main__":
    unittest.main()
