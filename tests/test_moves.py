"""Promise 23, with 6: how far a world must be loosened, what holds it, and when a moving world has points."""

import random
import unittest
from fractions import Fraction

from clashsize.errors import InvalidBook, InvalidFirmness, InvalidFraction, InvalidSpeeds, InvalidWorld
from clashsize.kinds import is_fraction, is_world
from clashsize.moves import holding, loosening, meeting_times, moved
from clashsize.worlds import has_points

from elimination import limits, rows_of, slow_meet
from samples import BOOKS, BOXES2, CURVE, DIFFERENCES4, HUGE, LINE, ODD_VALUES, ONE_WAY, QUARTER, SIX, THREE, TWELVE
from samples import as_fraction, pair_of, random_book, random_fraction, random_world, slow_knots

WORLD = [(-1, 1), (0, 1), (0, 1)]


def some_worlds(count):
    """Tuples of a book and a world, small enough for an elimination with one unknown more."""
    source = random.Random(34)
    shapes = [(1, 2, 1), (2, 3, 1), (2, 5, 2), (2, 9, 20), (3, 6, 1), (3, 8, 2), (4, 6, 1), (5, 7, 1)]
    books = BOOKS + [random_book(source, *shape) for shape in shapes]
    return [(book, random_world(source, book)) for book in books for _ in range(count)]


def slow_moved(world, speeds, time):
    return [None if bound is None else pair_of(as_fraction(bound) + as_fraction(speed) * time)
            for bound, speed in zip(world, speeds)]


def moving_rows(book, world, speeds):
    """The rows of a moving world, with the time as one unknown more."""
    return [(kind + (-as_fraction(speed),), as_fraction(bound), False)
            for kind, bound, speed in zip(book, world, speeds) if bound is not None]


class Loosening(unittest.TestCase):
    def test_told_worlds(self):
        told = [(THREE, WORLD, [1, 1, 1], (1, 3)), (THREE, WORLD, [1, 2, 1], (1, 4)),
                (THREE, WORLD, [1, 1, HUGE], (1, HUGE + 2)), (THREE, [(0, 1)] * 3, [1, 1, 1], (0, 1)),
                (THREE, [(5, 1)] * 3, [1, 1, 1], (0, 1)), (THREE, [None, (-5, 1), (-5, 1)], [1, 1, 1], (0, 1)),
                (THREE, [None] * 3, [1, 1, 1], (0, 1)),
                (BOXES2, [(-1, 1), (-1, 1), (0, 1), (0, 1)], [1, 2, 3, 4], (1, 5)),
                (LINE, [(-1, 2), (-1, 3)], [1, 4], (1, 6)), (LINE, [(-HUGE, 1), (-1, 1)], [1, 1], (5 * 10 ** 29, 1)),
                (ONE_WAY, [(-HUGE, 1)], [1], (0, 1))]
        for book, world, firmness, answer in told:
            self.assertEqual(loosening(book, world, firmness), answer, (world, firmness))

    def test_weights_count(self):
        book = [(-3, -5), (0, 1), (2, 1)]
        self.assertEqual(loosening(book, [(-1, 1), (0, 1), (0, 1)], [1, 1, 1]), (1, 6))
        self.assertEqual(loosening(book, [(-1, 1), (0, 1), (0, 1)], [1, 1, 5]), (1, 12))

    def test_against_an_elimination(self):
        source = random.Random(35)
        answers = []
        for book, world in some_worlds(4):
            firmness = [source.choice([1, 1, 2, 7, 10 ** 12]) for _ in book]
            speeds = [(item, 1) for item in firmness]
            time = ((0,) * len(book[0]) + (-1,), Fraction(0), False)
            least = limits(moving_rows(book, world, speeds) + [time], len(book[0]))[0]
            answers.append(least > 0)
            self.assertEqual(loosening(book, world, firmness), pair_of(least), (book, world, firmness))
        self.assertGreater(min(answers.count(True), answers.count(False)), 15)

    def test_less_is_not_enough(self):
        for book, world in some_worlds(2) + [(CURVE, [(-at, 1) for at in range(12)])]:
            step = as_fraction(loosening(book, world, [1] * len(book)))
            ones = [(1, 1)] * len(book)
            self.assertIs(has_points(book, slow_moved(world, ones, step)), True)
            if step > 0:
                self.assertIs(has_points(book, slow_moved(world, ones, step * Fraction(999, 1000))), False)

    def test_wrong_firmness(self):
        wrong = [None, [], [1, 1], [1, 1, 1, 1], (1, 1, 1), [1, 1, 0], [1, -1, 1], [1, True, 1], [1, None, 1],
                 [1, (1, 1), 1], [1, "1", 1], [True] * 3, {}, "111"]
        for firmness in wrong + ODD_VALUES:
            for call in (loosening, holding):
                with self.assertRaises(InvalidFirmness, msg=firmness):
                    call(THREE, [None] * 3, firmness)

    def test_which_error_comes_first(self):
        for call in (loosening, holding):
            with self.assertRaises(InvalidBook):
                call([], None, None)
            with self.assertRaises(InvalidWorld):
                call(THREE, [None] * 2, None)


class Holding(unittest.TestCase):
    def test_told_worlds(self):
        knot = [(0, 1), (1, 1), (2, 1)]
        pairs = [[(0, 1), (3, 1)], [(1, 1), (2, 1)]]
        told = [(THREE, WORLD, [1, 1, 1], [knot]), (THREE, [(0, 1)] * 3, [1, 1, 1], []),
                (THREE, [(5, 1)] * 3, [1, 1, 1], []), (THREE, [None, (0, 1), (0, 1)], [1, 1, 1], []),
                (BOXES2, [(-1, 1)] * 4, [1] * 4, pairs),
                (BOXES2, [(-1, 1), (-2, 1), (-1, 1), (-1, 1)], [1] * 4, pairs[1:]),
                (BOXES2, [(-1, 1), (-2, 1), (-1, 1), (-1, 1)], [1, 2, 1, 1], pairs),
                (BOXES2, [(-1, 1), (-2, 1), (-1, 1), (-1, 1)], [1, 3, 1, 1], pairs[:1]),
                (BOXES2, [(-1, 1), None, (-1, 1), (-1, 1)], [1] * 4, pairs[:1]), (BOXES2, [(0, 1)] * 4, [1] * 4, [])]
        for book, world, firmness, answer in told:
            self.assertEqual(holding(book, world, firmness), answer, (world, firmness))

    def test_against_a_look_at_each_set(self):
        source = random.Random(36)
        for book, world in some_worlds(4):
            firmness = [source.choice([1, 1, 2, 3]) for _ in book]
            step = as_fraction(loosening(book, world, firmness))
            loose = slow_moved(world, [(item, 1) for item in firmness], step)
            answer = []
            for knot in slow_knots(book):
                bounds = [loose[number] for number, _ in knot]
                if step > 0 and None not in bounds:
                    if sum([weight * as_fraction(bound) for (_, weight), bound in zip(knot, bounds)]) == 0:
                        answer.append(knot)
            self.assertEqual(holding(book, world, firmness), answer, (book, world, firmness))
            self.assertIs(answer == [], step == 0)


class Moving(unittest.TestCase):
    def test_told_worlds(self):
        told = [(THREE, WORLD, [(0, 1), (1, 1), (1, 2)], (2, 1), [(-1, 1), (2, 1), (1, 1)]),
                (THREE, [(1, 2), None, (1, 3)], [(1, 2), (5, 1), (-1, 3)], (1, 1), [(1, 1), None, (0, 1)]),
                (THREE, WORLD, [(1, 1)] * 3, (0, 1), WORLD), (THREE, WORLD, [(0, 1)] * 3, (HUGE, 2), WORLD),
                (THREE, WORLD, [(1, 1)] * 3, (-1, 2), [(-3, 2), (-1, 2), (-1, 2)]),
                (ONE_WAY, [None], [(1, 1)], (1, 1), [None])]
        for book, world, speeds, time, answer in told:
            self.assertEqual(moved(book, world, speeds, time), answer, (world, speeds, time))

    def test_against_fractions(self):
        source = random.Random(37)
        for book, world in some_worlds(3):
            speeds = [random_fraction(source) for _ in book]
            time = random_fraction(source)
            found = moved(book, world, speeds, time)
            self.assertEqual(found, slow_moved(world, speeds, as_fraction(time)))
            self.assertIs(is_world(book, found), True)

    def test_wrong_speeds(self):
        good = [(0, 1)] * 3
        wrong = [None, [], good[:2], good + good[:1], tuple(good), [(0, 1), (0, 1), None], [(0, 1), (0, 1), 0],
                 [(0, 1), (0, 2), (0, 1)], [(0, 1), [0, 1], (0, 1)], [(0, True), (0, 1), (0, 1)], {}]
        for speeds in wrong + ODD_VALUES:
            for call in (lambda: moved(THREE, WORLD, speeds, None), lambda: meeting_times(THREE, WORLD, speeds)):
                with self.assertRaises(InvalidSpeeds, msg=speeds):
                    call()

    def test_wrong_times(self):
        for time in [None, 0, 1, (2, 2), (0, 2), (1, 0), (1, -1), [1, 2], (1,), (True, 1), "1/2"] + ODD_VALUES:
            with self.assertRaises(InvalidFraction, msg=time):
                moved(THREE, WORLD, [(0, 1)] * 3, time)

    def test_which_error_comes_first(self):
        for call in (lambda book, world, speeds: moved(book, world, speeds, None), meeting_times):
            with self.assertRaises(InvalidBook):
                call([], None, None)
            with self.assertRaises(InvalidWorld):
                call(THREE, [None] * 2, None)
            with self.assertRaises(InvalidSpeeds):
                call(THREE, [None] * 3, None)


class Times(unittest.TestCase):
    def test_told_worlds(self):
        zero, one, less = (0, 1), (1, 1), (-1, 1)
        told = [(THREE, WORLD, [zero, one, one], ((1, 2), None)), (THREE, WORLD, [zero] * 3, None),
                (BOXES2, [zero, zero, one, one], [zero, less, zero, one], (less, one)),
                (THREE, [zero] * 3, [zero] * 3, (None, None)), (THREE, [zero] * 3, [less] * 3, (None, zero)),
                (THREE, WORLD, [less, less, zero], (None, (-1, 2))),
                (THREE, [None, less, less], [less] * 3, (None, None)),
                (BOXES2, [less, less, zero, zero], [one, less, zero, zero], None),
                (BOXES2, [less, one, zero, zero], [one, less, zero, zero], (one, one)),
                (BOXES2, [less, one, zero, zero], [one, (-1, 2), zero, zero], (one, (2, 1))),
                (ONE_WAY, [(-HUGE, 1)], [(-HUGE, 1)], (None, None)),
                (LINE, [(-HUGE, 1), zero], [(1, HUGE), zero], ((HUGE ** 2, 1), None)),
                (BOXES2, [less, less, zero, zero], [one, zero, zero, zero], None)]
        for book, world, speeds, answer in told:
            self.assertEqual(meeting_times(book, world, speeds), answer, (world, speeds))

    def test_against_an_elimination(self):
        source = random.Random(38)
        answers = []
        for book, world in some_worlds(5):
            speeds = [source.choice([(0, 1), (1, 1), (-1, 1), (-2, 3), random_fraction(source)]) for _ in book]
            rows = moving_rows(book, world, speeds)
            answer = None
            if slow_meet(rows):
                ends = limits(rows, len(book[0]))
                answer = tuple([None if end is None else pair_of(end) for end in ends])
            answers.append(answer if answer is None else answer.count(None))
            self.assertEqual(meeting_times(book, world, speeds), answer, (book, world, speeds))
        self.assertGreater(min([answers.count(kind) for kind in (None, 0, 1, 2)]), 3)

    def test_points_come_and_go(self):
        source = random.Random(39)
        for book, world in some_worlds(4):
            speeds = [(source.randint(-2, 2), 1) for _ in book]
            times = meeting_times(book, world, speeds)
            if times is None:
                for time in (-7, 0, Fraction(1, 3), 50):
                    self.assertIs(slow_meet(rows_of(book, slow_moved(world, speeds, time))), False)
            else:
                for end, beyond in zip(times, (Fraction(-1, 9), Fraction(1, 9))):
                    if end is not None:
                        self.assertIs(is_fraction(end), True)
                        self.assertIs(slow_meet(rows_of(book, slow_moved(world, speeds, as_fraction(end)))), True)
                        later = slow_moved(world, speeds, as_fraction(end) + beyond)
                        self.assertIs(slow_meet(rows_of(book, later)), False)

    def test_great_books(self):
        for book in (CURVE, SIX, DIFFERENCES4, TWELVE, QUARTER):
            world = [(-1, 1)] * len(book)
            has_knots = slow_knots(book) != []
            self.assertEqual(meeting_times(book, world, [(2, 1)] * len(book)), ((1, 2) if has_knots else None, None))
            self.assertEqual(meeting_times(book, world, [(-1, 3)] * len(book)), (None, (-3, 1) if has_knots else None))
            self.assertEqual(loosening(book, world, [3] * len(book)), (1, 3) if has_knots else (0, 1))
            self.assertEqual(holding(book, world, [3] * len(book)), slow_knots(book))


if __name__ == "__main__":
    unittest.main()
