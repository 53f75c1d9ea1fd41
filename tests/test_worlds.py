"""Promise 19, with 5, 6 and 8: sums of knots, worlds that break them, and forcing worlds."""

import copy
import random
import unittest
from fractions import Fraction

from clashsize.errors import InvalidBook, InvalidKnot, InvalidWorld, NoKnot
from clashsize.kinds import is_point, is_rules, is_world
from clashsize.worlds import breaking, breaks_alone, broken, forcing, has_points, is_forcing, knot_sum

from elimination import rows_of, rule_rows, slow_meet
from samples import BOOKS, BOXES2, BOXES5, CURVE, DIFFERENCES4, HUGE, LINE, ODD_VALUES, ONE_WAY, QUARTER, SIX, THREE
from samples import TILTED, TWELVE, as_fraction, pair_of, random_books, random_fraction, random_world, slow_dot, slow_knots

KNOT = [(0, 1), (1, 1), (2, 1)]
WORLD = [(-1, 1), (0, 1), (0, 1)]
MANY = BOOKS + random_books() + [CURVE, DIFFERENCES4, TWELVE]


def slow_sum(knot, world):
    if None in [world[number] for number, _ in knot]:
        return None
    return sum([weight * as_fraction(world[number]) for number, weight in knot], Fraction(0))


def slow_broken(book, world):
    sums = [(knot, slow_sum(knot, world)) for knot in slow_knots(book)]
    return [knot for knot, total in sums if total is not None and total < 0]


class Sums(unittest.TestCase):
    def test_sums(self):
        book = [(-3, -5), (0, 1), (2, 1)]
        knot = [(0, 2), (1, 7), (2, 3)]
        told = [([(1, 1), (1, 1), (1, 1)], (12, 1)), ([(1, 2), (-1, 7), (0, 1)], (0, 1)),
                ([(1, 3), (0, 1), (1, 9)], (1, 1)), ([(-1, 4), (1, 5), (1, 6)], (7, 5)), ([None, (1, 1), (1, 1)], None),
                ([(1, 1), (1, 1), None], None)]
        for world, answer in told:
            self.assertEqual(knot_sum(book, knot, world), answer, world)

    def test_none_at_other_kinds(self):
        self.assertEqual(knot_sum(BOXES2, [(0, 1), (3, 1)], [(1, 2), None, None, (1, 3)]), (5, 6))
        self.assertIsNone(knot_sum(BOXES2, [(1, 1), (2, 1)], [(1, 2), None, (1, 1), (1, 3)]))

    def test_against_fractions(self):
        source = random.Random(19)
        for book in MANY:
            for knot in slow_knots(book)[:6]:
                world = [source.choice([None, random_fraction(source), random_fraction(source)]) for _ in book]
                total = slow_sum(knot, world)
                self.assertEqual(knot_sum(book, knot, world), None if total is None else pair_of(total))

    def test_wrong_knots(self):
        for knot in [None, [], KNOT[:2], KNOT[::-1], tuple(KNOT), [(0, 2), (1, 2), (2, 2)],
                     [(0, 1), (1, 1), (2, True)]]:
            for call in (lambda: knot_sum(THREE, knot, None), lambda: breaking(THREE, knot),
                         lambda: breaks_alone(THREE, knot, None)):
                with self.assertRaises(InvalidKnot, msg=knot):
                    call()

    def test_which_error_comes_first(self):
        with self.assertRaises(InvalidBook):
            knot_sum([], None, None)
        with self.assertRaises(InvalidWorld):
            knot_sum(THREE, KNOT, WORLD[:2])
        with self.assertRaises(InvalidKnot):
            knot_sum(BOXES2, KNOT, WORLD)


class Broken(unittest.TestCase):
    def test_sums_that_are_just_0(self):
        told = [((-1, 1), [KNOT]), ((0, 1), []), ((1, 1), []), ((-1, HUGE), [KNOT]), ((1, HUGE), [])]
        for bound, answer in told:
            world = [(0, 1), bound, (0, 1)]
            self.assertEqual(broken(THREE, world), answer)
            self.assertIs(has_points(THREE, world), answer == [])
        self.assertEqual(broken(LINE, [(-1, 3), (1, 3)]), [])
        self.assertEqual(broken(LINE, [(-1, 3), (333, 1000)]), [[(0, 1), (1, 1)]])

    def test_none(self):
        self.assertEqual(broken(THREE, [(-1, 1), None, (0, 1)]), [])
        self.assertEqual(broken(BOXES2, [None, (-5, 1), (4, 1), None]), [[(1, 1), (2, 1)]])
        for book in MANY:
            self.assertEqual(broken(book, [None] * len(book)), [])
            self.assertIs(has_points(book, [None] * len(book)), True)

    def test_books_without_knots(self):
        for book in (ONE_WAY, QUARTER, TWELVE):
            self.assertEqual(broken(book, [(-HUGE, 1)] * len(book)), [])
            self.assertIs(has_points(book, [(-HUGE, 1)] * len(book)), True)

    def test_several(self):
        self.assertEqual(broken(BOXES2, [(-1, 1)] * 4), [[(0, 1), (3, 1)], [(1, 1), (2, 1)]])
        self.assertEqual(broken(CURVE, [(-1, 1)] * 12), slow_knots(CURVE))

    def test_against_a_look_at_each_set(self):
        source = random.Random(20)
        for book in MANY:
            for _ in range(6):
                world = random_world(source, book)
                self.assertEqual(broken(book, world), slow_broken(book, world), (book, world))

    def test_points_against_an_elimination(self):
        source = random.Random(21)
        answers = []
        for book in [book for book in MANY if len(book) <= 9 or len(book[0]) <= 3]:
            for _ in range(5):
                world = random_world(source, book)
                answers.append(slow_meet(rows_of(book, world)))
                self.assertIs(has_points(book, world), answers[-1], (book, world))
        self.assertGreater(min(answers.count(True), answers.count(False)), 20)

    def test_wrong_worlds(self):
        for call in (broken, has_points):
            for world in [None, WORLD[:2], tuple(WORLD), WORLD[:2] + [(2, 2)], WORLD[:2] + [0]]:
                with self.assertRaises(InvalidWorld):
                    call(THREE, world)
            with self.assertRaises(InvalidBook):
                call(THREE[::-1], None)


class Breaking(unittest.TestCase):
    def test_each_knot_of_each_book(self):
        for book in MANY:
            for knot in slow_knots(book)[:20]:
                world = breaking(book, knot)
                self.assertIs(is_world(book, world), True)
                self.assertNotIn(None, world)
                self.assertEqual(slow_broken(book, world), [knot])
                self.assertIs(breaks_alone(book, knot, world), True)

    def test_breaks_alone(self):
        knot = [(0, 1), (3, 1)]
        told = [([(-1, 1), (0, 1), (0, 1), (0, 1)], True), ([(-1, 1), (5, 1), (5, 1), (0, 1)], True),
                ([(0, 1), (0, 1), (0, 1), (0, 1)], False), ([(-1, 1), (-1, 1), (0, 1), (0, 1)], False),
                ([(0, 1), (-1, 1), (0, 1), (0, 1)], False), ([(-1, 1), None, (5, 1), (0, 1)], False),
                ([(-1, 1), None, None, (0, 1)], False), ([(-1, 1), (5, 1), (5, 1)], False),
                (((-1, 1), (5, 1), (5, 1), (0, 1)), False), ([(-2, 2), (5, 1), (5, 1), (0, 1)], False),
                ([(-HUGE, 1), (5, 1), (5, 1), (HUGE - 1, 1)], True), ([(-HUGE, 1), (5, 1), (5, 1), (HUGE, 1)], False)]
        for value, answer in told:
            self.assertIs(breaks_alone(BOXES2, knot, value), answer, value)

    def test_another_knot_is_broken_besides(self):
        book = [(-1, 0), (-1, 1), (0, -1), (1, 0)]
        pair, three = [(0, 1), (3, 1)], [(1, 1), (2, 1), (3, 1)]
        world = [(-1, 1), (-1, 1), (0, 1), (0, 1)]
        self.assertEqual(broken(book, world), [pair, three])
        self.assertIs(breaks_alone(book, pair, world), False)
        self.assertIs(breaks_alone(book, three, world), False)

    def test_against_a_look_at_each_set(self):
        source = random.Random(22)
        for book in MANY:
            for knot in slow_knots(book)[:3]:
                for _ in range(4):
                    world = random_world(source, book)
                    answer = None not in world and slow_broken(book, world) == [knot]
                    self.assertIs(breaks_alone(book, knot, world), answer)

    def test_any_value(self):
        for value in ODD_VALUES:
            self.assertIs(breaks_alone(THREE, KNOT, value), False)


def slow_forcing(book, value):
    """Whether rules and points are a forcing world, by the words of the document."""
    rules, points = value
    if slow_meet(rule_rows(book, rules)) or len(points) != len(rules):
        return False
    for at, point in enumerate(points):
        for index, (number, bound) in enumerate(rules):
            if (slow_dot(book[number], point) <= as_fraction(bound)) != (index != at):
                return False
    return True


class Forcing(unittest.TestCase):
    def test_each_book(self):
        for book in MANY:
            size = max([len(knot) for knot in slow_knots(book)], default=0)
            if size == 0:
                with self.assertRaises(NoKnot):
                    forcing(book)
            else:
                found = forcing(book)
                self.assertIs(type(found), tuple)
                rules, points = found
                self.assertEqual((type(rules), type(points)), (list, list))
                self.assertEqual((len(rules), len(points)), (size, size))
                self.assertIs(is_rules(book, rules), True)
                self.assertEqual(len({number for number, _ in rules}), size)
                self.assertTrue(all([is_point(book, point) for point in points]))
                self.assertIs(slow_forcing(book, found), True)
                self.assertIs(is_forcing(book, found), True)

    def test_changed_ones(self):
        for book in (LINE, THREE, TILTED, SIX, DIFFERENCES4, BOXES5):
            rules, points = forcing(book)
            changed = [(rules[1:], points[1:]), (rules[1:], points), (rules, points[1:]), (rules + rules[:1], points),
                       (rules + rules[:1], points + points[:1]), (tuple(rules), points), (rules, tuple(points)),
                       [rules, points], (rules, points, []), (rules,), (points, rules), (rules, points[::-1]),
                       ([(number, (10, 1)) for number, _ in rules], points), (rules, [None] + points[1:]),
                       ([None] + rules[1:], points), (rules, [list(points[0])] + points[1:])]
            for value in changed:
                if value != (rules, points):
                    self.assertIs(is_forcing(book, value), False, (book, value))
            for order in (1, -1):
                self.assertIs(is_forcing(book, (rules[::order], points[::order])), True)

    def test_any_number_of_rules(self):
        pair = ([(0, (-1, 1)), (3, (0, 1))], [((0, 1), (0, 1)), ((1, 1), (0, 1))])
        book = BOXES2 + [(1, 1)]
        self.assertIs(is_forcing(book, pair), True)
        self.assertEqual(len(forcing(book)[0]), 3)
        self.assertIs(is_forcing(book, forcing(book)), True)
        self.assertIs(is_forcing(book, ([], [])), False)
        self.assertIs(is_forcing(book, ([(0, (0, 1))], [((0, 1), (0, 1))])), False)

    def test_rules_that_meet_or_clash_without_one(self):
        points = [((0, 1), (0, 1)), ((1, 1), (0, 1))]
        self.assertIs(is_forcing(BOXES2, ([(0, (0, 1)), (3, (0, 1))], points)), False)
        rules = [(0, (-1, 1)), (1, (-1, 1)), (2, (0, 1)), (3, (0, 1))]
        for point in (((0, 1), (0, 1)), ((1, 1), (1, 1))):
            self.assertIs(is_forcing(BOXES2, (rules, [point] * 4)), False)

    def test_a_point_that_does_not_obey_another_rule(self):
        rules, points = [(0, (-1, 1)), (1, (0, 1)), (2, (0, 1))], [((0, 1), (0, 1)), ((0, 1), (1, 1)), ((1, 1), (0, 1))]
        self.assertIs(is_forcing(THREE, (rules, points)), True)
        for at in range(3):
            wrong = copy.deepcopy(points)
            wrong[at] = ((5, 1), (5, 1))
            self.assertIs(is_forcing(THREE, (rules, wrong)), False)

    def test_two_rules_of_one_kind(self):
        rules = [(0, (-1, 1)), (1, (0, 1)), (1, (0, 1))]
        self.assertIs(is_forcing(LINE, (rules, [((0, 1),), ((1, 1),), ((1, 1),)])), False)
        self.assertIs(is_forcing(LINE, (rules[:2], [((0, 1),), ((1, 1),)])), True)

    def test_any_value(self):
        for value in ODD_VALUES:
            self.assertIs(is_forcing(THREE, value), False)
            self.assertIs(is_forcing(THREE, (value, value)), False)
            self.assertIs(is_forcing(THREE, ([], value)), False)

    def test_wrong_books(self):
        for call in (lambda: forcing([]), lambda: is_forcing([], ([], [])), lambda: breaking([], KNOT),
                     lambda: breaks_alone([], KNOT, WORLD)):
            with self.assertRaises(InvalidBook):
                call()


if __name__ == "__main__":
    unittest.main()
