"""Promise 24, with 9: ways to a goal, and what follows from a world."""

import random
import unittest
from fractions import Fraction
from itertools import combinations

from clashsize.errors import Endless, InvalidBook, InvalidFraction, InvalidNumbers, InvalidWorld, NoPoints, NoWay
from clashsize.kinds import is_in, is_point, is_rules
from clashsize.ways import concluding, conclusion_size, follows, greatest, highest, is_concluding, is_rising, is_way
from clashsize.ways import rising, ways

from elimination import rows_of, rule_rows, slow_greatest, slow_meet
from samples import BOOKS, BOXES2, BOXES5, CURVE, DIFFERENCES4, HUGE, LINE, ODD_VALUES, ONE_WAY, QUARTER, SIX, THREE
from samples import TILTED, TWELVE, as_fraction, only_weights, pair_of, random_book, random_books, random_world, slow_dot

ROOF = [(0, 1), (2, 1), (3, 1)]
MANY = BOOKS + random_books() + [DIFFERENCES4, TWELVE]
BOTTOM = (0, 1)


def goals_for(book, source, count):
    """Goals: zeros, kinds of the book and their opposites, and others."""
    found = [(0,) * len(book[0]), source.choice(book), tuple([-2 * item for item in source.choice(book)])]
    while len(found) < count:
        reach = source.choice([1, 3, 30, HUGE])
        found.append(tuple([source.randint(-reach, reach) for _ in book[0]]))
    return found


def slow_ways(book, goal):
    """All ways, by a look at each set of kinds."""
    if not any(goal):
        return [[]]
    found = []
    for size in range(1, len(goal) + 1):
        for numbers in combinations(range(len(book)), size):
            weights = only_weights([book[number] for number in numbers] + [tuple([-item for item in goal])])
            if weights is not None:
                found.append([(number, pair_of(Fraction(weight, weights[-1]))) for number, weight in zip(numbers, weights)])
    return sorted(found)


def some_worlds(count):
    """Tuples of a book and a world, small enough for an elimination."""
    source = random.Random(40)
    shapes = [(1, 2, 1), (2, 3, 1), (2, 5, 2), (2, 9, 20), (3, 6, 1), (3, 9, 2), (4, 7, 1), (5, 8, 1)]
    books = BOOKS + [random_book(source, *shape) for shape in shapes]
    return [(book, random_world(source, book)) for book in books for _ in range(count)]


class Ways(unittest.TestCase):
    def test_told_goals(self):
        told = [(THREE, (-1, 0), [[(0, (1, 1)), (1, (1, 1))]]), (THREE, (0, 0), [[]]), (BOXES2, (0, 0), [[]]),
                (ONE_WAY, (5,), [[(0, (5, 1))]]), (ONE_WAY, (-1,), []), (ONE_WAY, (0,), [[]]), (QUARTER, (1, -1), []),
                (LINE, (-HUGE,), [[(0, (HUGE, 1))]]), (TILTED, (0, 3), [[(1, (3, 2)), (3, (3, 2))]]),
                (BOXES2, (1, -7), [[(1, (7, 1)), (3, (1, 1))]]), (THREE, (2, 2), [[(1, (2, 1)), (2, (2, 1))]]),
                ([(0, 1), (1, 0), (1, 1)], (2, 3), [[(0, (1, 1)), (2, (2, 1))], [(0, (3, 1)), (1, (2, 1))]]),
                ([(0, 1), (3, 2)], (6, 5), [[(0, (1, 1)), (1, (2, 1))]]), (SIX, (0,) * 4 + (2,), [[(1, (2, 1))]]),
                (SIX[:2], (-1,) * 4 + (0,), [[(0, (1, 1)), (1, (1, 1))]])]
        for book, goal, answer in told:
            self.assertEqual(ways(book, goal), answer, (book, goal))

    def test_fractions_are_compared_as_tuples(self):
        book = [(-1, -1), (1, 0), (1, 1), (2, 1)]
        found = ways(book, (3, 1))
        self.assertEqual(found, sorted(slow_ways(book, (3, 1))))
        self.assertEqual(found, [[(0, (1, 1)), (3, (2, 1))], [(1, (1, 1)), (3, (1, 1))], [(1, (2, 1)), (2, (1, 1))]])
        half = ways([(-1, 2), (0, 1), (1, 1), (2, -1), (2, 1)], (1, 1))
        self.assertEqual(half, slow_ways([(-1, 2), (0, 1), (1, 1), (2, -1), (2, 1)], (1, 1)))

    def test_against_a_look_at_each_set(self):
        source = random.Random(41)
        numbers = []
        for book in MANY:
            for goal in goals_for(book, source, 3 if len(book) > 10 else 6):
                answer = slow_ways(book, goal)
                numbers.append(len(answer))
                self.assertEqual(ways(book, goal), answer, (book, goal))
                self.assertEqual(conclusion_size(book, goal), max([len(way) for way in answer], default=None))
                for way in answer[:5]:
                    self.assertIs(is_way(book, goal, way), True)
        self.assertGreater(numbers.count(0), 10)
        self.assertGreater(max(numbers), 10)

    def test_great_books(self):
        goal = (1, 2, 3, 4, 5)
        self.assertEqual(ways(CURVE, goal), slow_ways(CURVE, goal))

    def test_sizes(self):
        told = [(THREE, (-1, 0), 2), (THREE, (1, 0), 1), (THREE, (0, 0), 0), (ONE_WAY, (-1,), None),
                (BOXES5, (1, -1, 1, 1, 2), 5), (BOXES5, (0, 0, 0, 0, 9), 1), (SIX, (1, 1, 1, 1, 1), 5),
                (QUARTER, (-1, 5), None)]
        for book, goal, answer in told:
            self.assertEqual(conclusion_size(book, goal), answer, (book, goal))


class IsWay(unittest.TestCase):
    def test_told_values(self):
        told = [(BOXES2, (1, 0), [(3, (1, 1))], True), (BOXES2, (1, 0), [(0, (1, 1)), (3, (2, 1))], False),
                (BOXES2, (1, 0), [(0, (-1, 1))], False), (BOXES2, (1, 0), [], False), (BOXES2, (0, 0), [], True),
                (BOXES2, (0, 0), [(0, (1, 1)), (3, (1, 1))], False), (BOXES2, (1, 1), [(2, (1, 1)), (3, (1, 1))], True),
                (BOXES2, (1, 1), [(3, (1, 1)), (2, (1, 1))], False),
                (BOXES2, (1, 1), ((2, (1, 1)), (3, (1, 1))), False),
                (BOXES2, (1, 1), [[2, (1, 1)], [3, (1, 1)]], False),
                (BOXES2, (1, 1), [(2, (1, 1)), (3, (2, 2))], False),
                (BOXES2, (1, 1), [(2, (1, 1)), (3, (1, True))], False), (BOXES2, (1, 1), [(2, 1), (3, 1)], False),
                (BOXES2, (1, 1), [(2, (1, 1)), (3, (1, 1)), (4, (1, 1))], False),
                (LINE, (-1,), [(False, (1, 1))], False), (BOXES2, (1, 1), [(-2, (1, 1)), (-1, (1, 1))], False),
                (BOXES2, (1, 1), [(1, (0, 1)), (2, (1, 1)), (3, (1, 1))], False),
                (THREE, (1, 1), [(0, (1, 1)), (1, (2, 1)), (2, (2, 1))], False),
                (THREE, (1, 1), [(1, (1, 1)), (2, (1, 1))], True), (TILTED, (0, 1), [(1, (1, 2)), (3, (1, 2))], True),
                (TILTED, (0, 1), [(1, (1, 2)), (3, (1, 3))], False), (LINE, (HUGE,), [(1, (HUGE, 1))], True),
                (LINE, (HUGE,), [(1, (HUGE - 1, 1))], False), (LINE, (2,), [(1, (1, 1)), (1, (1, 1))], False),
                (BOXES2, (1, 0), [(2, (0, 1)), (3, (1, 1))], False)]
        for book, goal, value, answer in told:
            self.assertIs(is_way(book, goal, value), answer, (book, goal, value))

    def test_changed_ways(self):
        source = random.Random(42)
        for book in MANY:
            for goal in goals_for(book, source, 4):
                for way in slow_ways(book, goal)[:4] if len(book) <= 8 else []:
                    values = [way + [None], way + way[-1:], [way], tuple(way), [list(item) for item in way],
                              [(number, pair_of(2 * as_fraction(factor))) for number, factor in way],
                              [(number, factor[0]) for number, factor in way], way[1:], way[:-1], way[::-1]]
                    for value in values:
                        self.assertIs(is_way(book, goal, value), value == way, (book, goal, value))

    def test_any_value(self):
        for value in ODD_VALUES:
            self.assertIs(is_way(THREE, (1, 1), value), False)
            self.assertIs(is_way(THREE, (0, 0), value), False)


class Greatest(unittest.TestCase):
    def test_told_worlds(self):
        told = [(THREE, ROOF, (-1, 0), (2, 1)), (THREE, ROOF, (1, 2), (7, 1)),
                (THREE, [None, (2, 1), (3, 1)], (-1, 0), None), (THREE, ROOF, (0, 0), (0, 1)),
                (THREE, [None] * 3, (0, 0), (0, 1)), (THREE, [None] * 3, (0, 1), None),
                (LINE, [(-1, 3), (1, 2)], (6,), (3, 1)), (LINE, [(-1, 3), (1, 2)], (-6,), (-2, 1)),
                (LINE, [(-1, 3), (1, 3)], (HUGE,), (HUGE // 3, 1)),
                (THREE, [(-1, 1), (1, 2), (1, 2)], (5, -7), (-1, 1)), (QUARTER, [(-1, 1), (5, 1)], (1, 1), (4, 1)),
                (QUARTER, [(-1, 1), (5, 1)], (1, -1), None)]
        for book, world, goal, answer in told:
            self.assertEqual(greatest(book, world, goal), answer, (world, goal))

    def test_against_an_elimination(self):
        source = random.Random(43)
        answers = []
        for book, world in some_worlds(5):
            rows = rows_of(book, world)
            for goal in goals_for(book, source, 4):
                if not slow_meet(rows):
                    answers.append("none")
                    self.check_without_points(book, world, goal)
                else:
                    answer = slow_greatest(rows, goal)
                    answers.append(answer is None)
                    self.assertEqual(greatest(book, world, goal), None if answer is None else pair_of(answer))
                    self.check_highest(book, world, goal, answer)
                    self.check_follows(book, world, goal, answer)
        self.assertGreater(min([answers.count(kind) for kind in ("none", True, False)]), 30)

    def check_without_points(self, book, world, goal):
        for call in (greatest, highest):
            with self.assertRaises(NoPoints):
                call(book, world, goal)
        self.assertIs(follows(book, world, goal, (-HUGE, 1)), True)

    def check_highest(self, book, world, goal, answer):
        if answer is None:
            with self.assertRaises(Endless):
                highest(book, world, goal)
        else:
            point = highest(book, world, goal)
            self.assertIs(is_point(book, point), True)
            self.assertIs(is_in(book, world, point), True)
            self.assertEqual(slow_dot(goal, point), answer)

    def check_follows(self, book, world, goal, answer):
        if answer is None:
            self.assertIs(follows(book, world, goal, (HUGE, 1)), False)
        else:
            for step in (0, Fraction(1, 7), Fraction(-1, HUGE), 5):
                self.assertIs(follows(book, world, goal, pair_of(answer + step)), step >= 0)

    def test_great_books(self):
        """A point that takes the value, and a way to it, show together that it is the greatest one."""
        source = random.Random(44)
        for book in (CURVE, random_book(source, 5, 12, 2), random_book(source, 4, 12, 20)):
            world = [(source.randint(3, 30), source.choice([1, 1, 1])) for _ in book]
            for goal in goals_for(book, source, 4):
                found = greatest(book, world, goal)
                if found is not None:
                    self.check_highest(book, world, goal, as_fraction(found))
                    sums = [sum([as_fraction(factor) * as_fraction(world[number]) for number, factor in way], Fraction(0))
                            for way in slow_ways(book, goal)]
                    self.assertEqual(min(sums), as_fraction(found))

    def test_no_points_ahead_of_endless(self):
        world = [(-1, 1), None, None, (0, 1)]
        for call in (greatest, highest):
            with self.assertRaises(NoPoints):
                call(BOXES2, world, (0, 1))
        with self.assertRaises(Endless):
            highest(BOXES2, [(1, 1), None, None, (0, 1)], (0, 1))
        self.assertIs(follows(BOXES2, world, (0, 1), (0, 1)), True)
        self.assertIs(follows(BOXES2, [(1, 1), None, None, (0, 1)], (0, 1), (0, 1)), False)


class Rising(unittest.TestCase):
    def test_against_an_elimination(self):
        source = random.Random(45)
        answers = []
        for book, world in some_worlds(4):
            for goal in goals_for(book, source, 4):
                rows = [(kind, Fraction(0), False) for kind, bound in zip(book, world) if bound is not None]
                exists = slow_meet(rows + [(tuple([-item for item in goal]), Fraction(-1), False)])
                answers.append(exists)
                found = rising(book, world, goal)
                self.assertIs(found is not None, exists, (book, world, goal))
                if exists:
                    self.check_direction(book, world, goal, found)
        self.assertGreater(min(answers.count(True), answers.count(False)), 30)

    def check_direction(self, book, world, goal, direction):
        self.assertIs(type(direction), tuple)
        self.assertEqual([type(item) for item in direction], [int] * len(book[0]))
        self.assertGreater(sum([one * two for one, two in zip(goal, direction)]), 0)
        for kind, bound in zip(book, world):
            if bound is not None:
                self.assertLessEqual(sum([one * two for one, two in zip(kind, direction)]), 0)
        self.assertIs(is_rising(book, world, goal, direction), True)

    def test_points_play_no_part(self):
        """A world without points can have such a direction, too."""
        world = [(-1, 1), None, None, (0, 1)]
        self.check_direction(BOXES2, world, (0, 1), rising(BOXES2, world, (0, 1)))
        self.assertIsNone(rising(BOXES2, world, (1, 0)))

    def test_told_goals(self):
        for book, world, goal in [(THREE, ROOF, (1, 0)), (THREE, ROOF, (0, 0)), (THREE, [None] * 3, (0, 0)),
                                  (LINE, ROOF[:2], (7,))]:
            self.assertIsNone(rising(book, world, goal))
        for goal in [(1, 0), (0, HUGE), (-HUGE, 1), (-1, -1)]:
            self.check_direction(THREE, [None] * 3, goal, rising(THREE, [None] * 3, goal))

    def test_is_rising(self):
        world = [None, (2, 1), (3, 1)]
        told = [((-1, 0), (-1, 0), True), ((-1, 0), (-1, 1), False), ((-1, 0), (0, -1), False),
                ((-1, 0), (-HUGE, -1), True), ((-1, 0), (0, 0), False), ((0, 0), (-1, -1), False),
                ((-1, 0), (-1,), False), ((-1, 0), [-1, 0], False), ((-1, 0), (-1, False), False),
                ((-1, 0), (-1, 0, 0), False), ((-1, 0), None, False)]
        for goal, value, answer in told:
            self.assertIs(is_rising(THREE, world, goal, value), answer, (goal, value))
        self.assertIs(is_rising(THREE, ROOF, (-1, 0), (-1, 0)), False)
        self.assertIs(is_rising(THREE, [None] * 3, (1, 1), (5, 5)), True)

    def test_any_value(self):
        for value in ODD_VALUES:
            self.assertIs(is_rising(THREE, [None] * 3, (1, 1), value), False)


def slow_concluding(book, goal, value):
    """Whether rules and points show a conclusion, by the words of the document and an elimination."""
    rules, points = value
    above = (tuple([-item for item in goal]), Fraction(-1), False)
    # Where all bounds are 0, points with the goal above 0 have multiples with the goal from 1 on.
    if slow_meet(rule_rows(book, rules) + [above]) or len(points) != len(rules):
        return False
    for at, point in enumerate(points):
        if slow_dot(goal, point) <= 0:
            return False
        for index, (number, bound) in enumerate(rules):
            if (slow_dot(book[number], point) <= as_fraction(bound)) != (index != at):
                return False
    return True


class Concluding(unittest.TestCase):
    def test_each_goal(self):
        source = random.Random(46)
        sizes = []
        for book in [book for book in MANY if len(book) <= 10] + [CURVE]:
            for goal in goals_for(book, source, 5):
                size = conclusion_size(book, goal)
                sizes.append(size)
                if size is None:
                    with self.assertRaises(NoWay):
                        concluding(book, goal)
                else:
                    found = concluding(book, goal)
                    self.check_form(book, found, size)
                    self.assertIs(slow_concluding(book, goal, found), True)
                    self.assertIs(is_concluding(book, goal, found), True)
        self.assertEqual({0, 1, 2, 3, 4, 5, None}, set(sizes))

    def check_form(self, book, value, size):
        self.assertIs(type(value), tuple)
        rules, points = value
        self.assertEqual((type(rules), type(points), len(rules), len(points)), (list, list, size, size))
        self.assertIs(is_rules(book, rules), True)
        self.assertEqual({bound for _, bound in rules}, {BOTTOM} if size else set())
        self.assertEqual(len({number for number, _ in rules}), size)
        self.assertTrue(all([is_point(book, point) for point in points]))

    def test_goals_of_zeros(self):
        for book in BOOKS:
            goal = (0,) * len(book[0])
            self.assertEqual(concluding(book, goal), ([], []))
            self.assertIs(is_concluding(book, goal, ([], [])), True)
        self.assertIs(is_concluding(THREE, (1, 0), ([], [])), False)
        self.assertIs(is_concluding(THREE, (0, 0), ([(0, BOTTOM)], [((1, 1), (1, 1))])), False)

    def test_told_values(self):
        rules, points = [(0, BOTTOM), (1, BOTTOM)], [((-1, 1), (0, 1)), ((-1, 1), (1, 1))]
        told = [((rules, points), True), ((rules[::-1], points[::-1]), True), ((rules, points[::-1]), False),
                ((rules[:1], points[:1]), False), ((rules, points[:1]), False),
                (([(0, BOTTOM), (1, (1, 1))], points), False), ((rules, [((-1, 1), (-1, 1)), points[1]]), True),
                ((rules, [((0, 1), (0, 1)), points[1]]), False), ((rules, [((-1, 1), (1, 1))] + points[1:]), False),
                ((rules + [(2, BOTTOM)], points + [((-1, 1), (0, 1))]), False),
                ((rules + rules[:1], points + points[:1]), False), ([rules, points], False),
                ((tuple(rules), points), False), ((rules, tuple(points)), False), ((rules,), False),
                ((rules, points, points), False), ((rules, [None, points[1]]), False),
                (([(0, (0, 2)), rules[1]], points), False)]
        for value, answer in told:
            self.assertIs(is_concluding(THREE, (-1, 0), value), answer, value)
            if answer:
                self.assertIs(slow_concluding(THREE, (-1, 0), value), True)

    def test_fewer_rules_than_the_conclusion_size(self):
        book = sorted(BOXES2 + [(1, 1)])
        self.assertEqual(conclusion_size(book, (1, 1)), 2)
        self.assertIs(is_concluding(book, (1, 1), ([(4, BOTTOM)], [((1, 1), (0, 1))])), True)
        self.assertIs(is_concluding(book, (1, 1), concluding(book, (1, 1))), True)

    def test_any_value(self):
        for value in ODD_VALUES:
            self.assertIs(is_concluding(THREE, (-1, 0), value), False)
            self.assertIs(is_concluding(THREE, (0, 0), (value, [])), False)
            self.assertIs(is_concluding(THREE, (0, 0), ([], value)), False)


class Wrong(unittest.TestCase):
    ABOUT_GOALS = [ways, conclusion_size, concluding, lambda book, goal: is_way(book, goal, None),
                   lambda book, goal: is_concluding(book, goal, None)]
    ABOUT_WORLDS = [greatest, highest, rising, lambda book, world, goal: follows(book, world, goal, None),
                    lambda book, world, goal: is_rising(book, world, goal, None)]

    def test_wrong_goals(self):
        for goal in [None, (1,), (1, 0, 0), [1, 0], (1, True), (1, None), (1, (1, 1)), "10", (), {}] + ODD_VALUES:
            for call in self.ABOUT_GOALS:
                with self.assertRaises(InvalidNumbers, msg=goal):
                    call(THREE, goal)
            for call in self.ABOUT_WORLDS:
                with self.assertRaises(InvalidNumbers, msg=goal):
                    # No point is in this world, but the errors of the parameters come first.
                    call(THREE, [(-1, 1)] * 3, goal)

    def test_wrong_bounds(self):
        for bound in [None, 0, (2, 2), (0, 2), [1, 2], (1, -1), (True, 1)] + ODD_VALUES:
            with self.assertRaises(InvalidFraction, msg=bound):
                follows(THREE, [(-1, 1)] * 3, (1, 0), bound)

    def test_which_error_comes_first(self):
        for call in self.ABOUT_GOALS:
            with self.assertRaises(InvalidBook):
                call(THREE[::-1], None)
        for call in self.ABOUT_WORLDS:
            with self.assertRaises(InvalidBook):
                call(THREE[::-1], None, None)
            with self.assertRaises(InvalidWorld):
                call(THREE, [None] * 2, None)


if __name__ == "__main__":
    unittest.main()
