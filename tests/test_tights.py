"""Promise 25, with 10: tight worlds, idle bounds, insides and dimensions."""

import random
import unittest
from fractions import Fraction

from clashsize.errors import InvalidBook, InvalidWorld, NoInside, NoPoints
from clashsize.kinds import is_in, is_point, is_world
from clashsize.tights import core, covering, dimension, has_inside, idle, inside_point, is_bounded, parting
from clashsize.tights import same_points, tight

from elimination import limits, rows_of, slow_greatest, slow_meet
from samples import BOOKS, BOXES2, BOXES5, CURVE, DIFFERENCES4, LINE, ONE_WAY, QUARTER, SIX, THREE, TILTED, TWELVE
from samples import as_fraction, pair_of, random_book, random_world, slow_dot, slow_rank

FIVE = [(-1, 0), (0, -1), (0, 1), (1, 0), (1, 1)]
BOX = [(0, 1), (0, 1), (3, 1), (2, 1), None]
CORNER = [(-1, 1), (0, 1), (0, 1), (1, 1)]
NOTHING = [(-1, 1), (0, 1), (0, 1), (0, 1)]


def some_books():
    source = random.Random(50)
    shapes = [(1, 2, 1), (2, 3, 1), (2, 5, 2), (2, 8, 20), (3, 6, 1), (3, 9, 2), (4, 7, 1), (5, 7, 1)]
    return BOOKS + [random_book(source, *shape) for shape in shapes]


def some_worlds(count):
    """Tuples of a book and a world, small enough for an elimination."""
    source = random.Random(51)
    return [(book, random_world(source, book)) for book in some_books() for _ in range(count)]


def slow_tight(book, world):
    """The tight world; None without points."""
    rows = rows_of(book, world)
    if not slow_meet(rows):
        return None
    found = [slow_greatest(rows, kind) for kind in book]
    return [None if bound is None else pair_of(bound) for bound in found]


def beyond(book, world, bounds):
    """A world with some of its bounds changed to others: None, or changed by so much."""
    return [None if step is None or bound is None else pair_of(as_fraction(bound) + step)
            for bound, step in zip(world, bounds)]


def some_pairs(count):
    """Tuples of a book and two worlds, which have the same points now and then."""
    source = random.Random(52)
    found = []
    for book in some_books():
        for _ in range(count):
            world = random_world(source, book)
            steps = source.choice([[0], [0, None], [0, 0, 0, 1], [0, Fraction(1, 2), 9], [0, -1], [-2, 2]])
            other = beyond(book, world, [source.choice(steps) for _ in book])
            tightened = slow_tight(book, world)
            if tightened is not None and source.randint(0, 2) == 0:
                other = tightened
            found.append((book, world, other) if source.randint(0, 1) else (book, other, world))
    return found


class Tight(unittest.TestCase):
    def test_told_worlds(self):
        told = [(FIVE, BOX, BOX[:4] + [(5, 1)]), (FIVE, BOX[:4] + [(9, 1)], BOX[:4] + [(5, 1)]),
                (FIVE, BOX[:4] + [(4, 1)], BOX[:4] + [(4, 1)]),
                (FIVE, BOX[:4] + [(1, 2)], [(0, 1), (0, 1), (1, 2), (1, 2), (1, 2)]), (THREE, [None] * 3, [None] * 3),
                (LINE, [(-1, 1), None], [(-1, 1), None]), (TILTED, CORNER, CORNER), (THREE, [(0, 1)] * 3, [(0, 1)] * 3),
                (ONE_WAY, [None], [None]), (QUARTER, [(5, 1), None], [(5, 1), None]),
                (FIVE, [None, None, (3, 1), None, (4, 1)], [None, None, (3, 1), None, (4, 1)])]
        for book, world, answer in told:
            self.assertEqual(tight(book, world), answer, world)

    def test_against_an_elimination(self):
        answers = []
        for book, world in some_worlds(6):
            answer = slow_tight(book, world)
            answers.append(answer is None)
            if answer is None:
                with self.assertRaises(NoPoints):
                    tight(book, world)
            else:
                found = tight(book, world)
                self.assertEqual(found, answer, (book, world))
                self.assertIs(is_world(book, found), True)
                self.assertEqual(tight(book, found), found)
        self.assertGreater(min(answers.count(True), answers.count(False)), 20)

    def test_great_books(self):
        for book in (CURVE, DIFFERENCES4, TWELVE):
            world = [(at % 3 + 4, 1) for at in range(12)]
            found = tight(book, world)
            for bound, least in zip(world, found):
                self.assertLessEqual(as_fraction(least), as_fraction(bound))
            self.assertIs(same_points(book, world, found), True)
            self.assertEqual(tight(book, found), found)
        self.assertEqual(tight(TWELVE, [(0, 1)] + [None] * 10 + [(11, 1)]), [(at, 1) for at in range(12)])


class Same(unittest.TestCase):
    def test_told_worlds(self):
        told = [(FIVE, BOX, BOX[:4] + [(6, 1)], True), (FIVE, BOX, BOX[:4] + [(5, 1)], True),
                (FIVE, BOX, BOX[:4] + [(9, 2)], False), (THREE, [None] * 3, [None] * 3, True),
                (THREE, [None] * 3, [(0, 1), None, None], False),
                (BOXES2, NOTHING, [(0, 1), (0, 1), (-1, 1), (5, 1)], True), (BOXES2, NOTHING, [None] * 4, False),
                (BOXES2, CORNER, NOTHING, False), (LINE, [(0, 1), (0, 1)], [(0, 1), (1, 1)], False)]
        for book, world, other, answer in told:
            self.assertIs(same_points(book, world, other), answer)
            self.assertIs(same_points(book, other, world), answer)
            self.assertIs(parting(book, world, other) is None, answer)

    def test_against_an_elimination(self):
        answers = []
        for book, world, other in some_pairs(8):
            first, second = slow_tight(book, world), slow_tight(book, other)
            answer = first == second
            answers.append((answer, [first, second].count(None)))
            self.assertIs(same_points(book, world, other), answer, (book, world, other))
            point = parting(book, world, other)
            self.assertIs(point is None, answer, (book, world, other))
            if point is not None:
                self.assertIs(is_point(book, point), True)
                self.assertNotEqual(is_in(book, world, point), is_in(book, other, point))
        for kind in [(True, 0), (False, 0), (False, 1), (True, 2)]:
            self.assertGreater(answers.count(kind), 5, kind)

    def test_one_world_has_no_points(self):
        for world, other in ((NOTHING, CORNER), (CORNER, NOTHING), (NOTHING, [None] * 4), ([None] * 4, NOTHING)):
            point = parting(BOXES2, world, other)
            self.assertNotEqual(is_in(BOXES2, world, point), is_in(BOXES2, other, point))
        self.assertIsNone(parting(BOXES2, NOTHING, NOTHING))

    def test_worlds_that_are_in_each_other(self):
        for steps in ([0, 0, 1, 0], [0, 0, 0, Fraction(1, 9)], [0, 2, None, 0], [None] * 4):
            other = beyond(BOXES2, BOX[:4], steps)
            for one, two in ((BOX[:4], other), (other, BOX[:4])):
                point = parting(BOXES2, one, two)
                self.assertEqual((is_in(BOXES2, BOX[:4], point), is_in(BOXES2, other, point)), (False, True))


class Covering(unittest.TestCase):
    def test_told_worlds(self):
        other = [(-4, 1), (0, 1), (1, 1), (4, 1), None]
        told = [(FIVE, BOX, other, [(0, 1), (0, 1), (3, 1), (4, 1), (5, 1)]), (BOXES2, NOTHING, CORNER, CORNER),
                (BOXES2, CORNER, NOTHING, CORNER), (LINE, [(0, 1), None], [(1, 1), (5, 1)], [(1, 1), None]),
                (THREE, [None] * 3, [(0, 1)] * 3, [None] * 3), (FIVE, BOX, BOX, BOX[:4] + [(5, 1)]),
                (FIVE, BOX[:4] + [(9, 1)], [(-1, 1)] * 5, BOX[:4] + [(5, 1)])]
        for book, world, second, answer in told:
            self.assertEqual(covering(book, world, second), answer, (world, second))

    def test_both_without_points(self):
        with self.assertRaises(NoPoints):
            covering(BOXES2, NOTHING, [(0, 1), (0, 1), (-1, 1), (5, 1)])

    def test_against_an_elimination(self):
        counts = []
        for book, world, other in some_pairs(6):
            first, second = slow_tight(book, world), slow_tight(book, other)
            counts.append([first, second].count(None))
            if first is None and second is None:
                with self.assertRaises(NoPoints):
                    covering(book, world, other)
            elif first is None or second is None:
                self.assertEqual(covering(book, world, other), second if first is None else first)
            else:
                answer = [None if None in pair else max(pair, key=as_fraction) for pair in zip(first, second)]
                self.assertEqual(covering(book, world, other), answer)
                self.assertEqual(tight(book, answer), answer)
        self.assertGreater(min([counts.count(many) for many in (0, 1, 2)]), 3)


def slow_idle(book, world):
    found = []
    for number, bound in enumerate(world):
        if bound is not None:
            looser = world[:number] + [None] + world[number + 1:]
            if slow_tight(book, looser) == slow_tight(book, world):
                found.append(number)
    return found


class Idle(unittest.TestCase):
    def test_told_worlds(self):
        told = [(FIVE, BOX, []), (FIVE, BOX[:4] + [(5, 1)], [4]), (FIVE, BOX[:4] + [(6, 1)], [4]),
                (FIVE, BOX[:4] + [(4, 1)], []), (FIVE, BOX[:4] + [(2, 1)], [2, 3]), (THREE, [None] * 3, []),
                (LINE, [(0, 1), (0, 1)], []), (BOXES2, CORNER, []), (FIVE, BOX[:4] + [(-1, 1)], [2, 3]),
                (LINE, [(-1, 1), (0, 1)], [])]
        for book, world, answer in told:
            self.assertEqual(idle(book, world), answer, world)

    def test_idle_because_of_one_another(self):
        """Here one of some bounds can be left out, but not all that are idle."""
        point = [(0, 1)] * 5
        self.assertEqual(idle(FIVE, point), [2, 3, 4])
        self.assertIs(same_points(FIVE, point, [(0, 1), (0, 1), None, None, None]), False)
        self.assertIs(same_points(FIVE, point, [(0, 1), (0, 1), None, None, (0, 1)]), True)
        line = [(-2, -1), (-1, 0), (0, -1), (0, 1), (1, 0), (2, 1)]
        self.assertEqual(idle(line, [(0, 1)] * 6), [0, 1, 2, 3, 4, 5])

    def test_several_clashes(self):
        """Without points a bound is idle if the others have none either."""
        self.assertEqual(idle(BOXES2, [(-1, 1)] * 4), [0, 1, 2, 3])
        self.assertEqual(idle(BOXES2, NOTHING), [1, 2])
        self.assertEqual(idle(THREE, [(-1, 1), (0, 1), (0, 1)]), [])

    def test_against_an_elimination(self):
        numbers = []
        for book, world in some_worlds(5):
            answer = slow_idle(book, world)
            numbers.append(len(answer))
            self.assertEqual(idle(book, world), answer, (book, world))
        self.assertGreater(len(numbers) - numbers.count(0), 20)


class Inside(unittest.TestCase):
    def test_told_worlds(self):
        told = [(FIVE, BOX, True), (TILTED, CORNER, False), (BOXES2, CORNER, False), (THREE, [None] * 3, True),
                (THREE, [(0, 1)] * 3, False), (LINE, [(0, 1), (1, 10 ** 30)], True), (LINE, [(0, 1), (0, 1)], False),
                (BOXES2, NOTHING, False), (QUARTER, [(0, 1), (0, 1)], True),
                (BOXES2, [(0, 1), None, (0, 1), (0, 1)], False)]
        for book, world, answer in told:
            self.assertIs(has_inside(book, world), answer, world)

    def test_against_an_elimination(self):
        answers = []
        for book, world in some_worlds(6) + [(book, [None] * len(book)) for book in BOOKS]:
            meets, answer = slow_meet(rows_of(book, world)), slow_meet(rows_of(book, world, True))
            answers.append((meets, answer))
            self.assertIs(has_inside(book, world), answer, (book, world))
            if answer:
                self.check_point(book, world, inside_point(book, world))
                needless = slow_idle(book, world)
                self.assertEqual(core(book, world), [number for number, bound in enumerate(world)
                                                     if bound is not None and number not in needless])
            else:
                for call in (inside_point, core):
                    with self.assertRaises(NoInside if meets else NoPoints):
                        call(book, world)
        for kind in [(True, True), (True, False), (False, False)]:
            self.assertGreater(answers.count(kind), 10)

    def check_point(self, book, world, point):
        self.assertIs(is_point(book, point), True)
        for kind, bound in zip(book, world):
            if bound is not None:
                self.assertLess(slow_dot(kind, point), as_fraction(bound))

    def test_great_books(self):
        for book in (CURVE, DIFFERENCES4, TWELVE, BOXES5, SIX):
            for bound in ((1, 1), (1, 10 ** 29)):
                world = [bound] * len(book)
                self.check_point(book, world, inside_point(book, world))

    def test_cores(self):
        told = [(FIVE, BOX, [0, 1, 2, 3]), (FIVE, BOX[:4] + [(5, 1)], [0, 1, 2, 3]),
                (FIVE, BOX[:4] + [(2, 1)], [0, 1, 4]), (THREE, [None] * 3, []), (LINE, [(3, 1), (4, 1)], [0, 1]),
                (FIVE, BOX[:4] + [(4, 1)], [0, 1, 2, 3, 4])]
        for book, world, answer in told:
            self.assertEqual(core(book, world), answer, world)

    def test_a_core_alone_has_the_same_points(self):
        for book, world in some_worlds(4):
            if has_inside(book, world):
                kept = core(book, world)
                bounds = [bound if number in kept else None for number, bound in enumerate(world)]
                self.assertEqual(slow_tight(book, bounds), slow_tight(book, world))
                for number in kept:
                    fewer = bounds[:number] + [None] + bounds[number + 1:]
                    self.assertNotEqual(slow_tight(book, fewer), slow_tight(book, world))


def slow_dimension(book, world):
    """The number of unknowns less the rank of the kinds whose rules all points meet with equality."""
    rows = rows_of(book, world)
    if not slow_meet(rows):
        return -1
    even = []
    for kind, bound in zip(book, world):
        if bound is not None and slow_greatest(rows, tuple([-item for item in kind])) == -as_fraction(bound):
            even.append(kind)
    return len(book[0]) - slow_rank(even)


class Dimensions(unittest.TestCase):
    def test_told_worlds(self):
        told = [(FIVE, BOX, 2), (TILTED, CORNER, 0), (BOXES2, CORNER, 0), (BOXES2, NOTHING, -1), (THREE, [None] * 3, 2),
                (BOXES2, [(0, 1), None, None, (0, 1)], 1), (BOXES2, [(0, 1), (3, 1), (4, 1), (0, 1)], 1),
                (LINE, [(0, 1)] * 2, 0), (ONE_WAY, [(-5, 1)], 1), (THREE, [(0, 1)] * 3, 0), (SIX, [(0, 1)] * 6, 0),
                (SIX, [(0, 1)] * 5 + [None], 5), (CURVE, [(0, 1)] * 12, 0), (TWELVE, [(0, 1)] * 12, 2),
                (DIFFERENCES4, [(0, 1)] * 12, 1)]
        for book, world, answer in told:
            self.assertEqual(dimension(book, world), answer, (book, world))

    def test_each_dimension(self):
        for flat in range(6):
            world = [(0, 1) if min(number, 9 - number) >= flat else (1, 1) for number in range(10)]
            self.assertEqual(dimension(BOXES5, world), flat)

    def test_against_an_elimination(self):
        answers = []
        for book, world in some_worlds(6):
            answers.append(slow_dimension(book, world))
            self.assertEqual(dimension(book, world), answers[-1], (book, world))
        self.assertEqual(sorted(set(answers)), list(range(-1, 6)))


class Bounded(unittest.TestCase):
    def test_told_worlds(self):
        told = [(FIVE, BOX, True), (FIVE, BOX[:3] + [None, None], False), (FIVE, BOX[:3] + [None, (9, 1)], True),
                (THREE, [(0, 1)] * 3, True), (THREE, [None, (0, 1), (0, 1)], False), (THREE, [None] * 3, False),
                (LINE, [(0, 1)] * 2, True), (LINE, [None, (0, 1)], False), (ONE_WAY, [(0, 1)], False),
                ([(-1, 0), (1, 0)], [(0, 1)] * 2, False), (BOXES2, CORNER, True), (TILTED, CORNER, True),
                (DIFFERENCES4, [(0, 1)] * 12, False), (CURVE, [(1, 1)] * 12, True), (SIX, [(1, 1)] * 6, True),
                (SIX, [(1, 1)] * 5 + [None], False)]
        for book, world, answer in told:
            self.assertIs(is_bounded(book, world), answer, (book, world))

    def test_against_an_elimination(self):
        answers = []
        for book, world in some_worlds(6):
            rows = rows_of(book, world)
            if not slow_meet(rows):
                with self.assertRaises(NoPoints):
                    is_bounded(book, world)
            else:
                ends = [end for unknown in range(len(book[0])) for end in limits(rows, unknown)]
                answers.append(None not in ends)
                self.assertIs(is_bounded(book, world), answers[-1], (book, world))
        self.assertGreater(min(answers.count(True), answers.count(False)), 15)


class Wrong(unittest.TestCase):
    ABOUT_ONE = (tight, idle, has_inside, inside_point, core, dimension, is_bounded)
    ABOUT_TWO = (same_points, parting, covering)

    def test_wrong_worlds(self):
        for world in [None, [], [None] * 2, [None] * 4, (None,) * 3, [None, None, (2, 2)], [None, 0, None], {}]:
            for call in self.ABOUT_ONE:
                with self.assertRaises(InvalidWorld, msg=world):
                    call(THREE, world)
            for call in self.ABOUT_TWO:
                with self.assertRaises(InvalidWorld, msg=world):
                    call(THREE, world, [(-1, 1)] * 3)
                with self.assertRaises(InvalidWorld, msg=world):
                    call(THREE, [(-1, 1)] * 3, world)

    def test_the_book_comes_first(self):
        for book in (None, [], THREE[::-1], tuple(THREE)):
            for call in self.ABOUT_ONE:
                with self.assertRaises(InvalidBook):
                    call(book, None)
            for call in self.ABOUT_TWO:
                with self.assertRaises(InvalidBook):
                    call(book, None, None)

    def test_no_points_comes_ahead_of_no_inside(self):
        for call in (inside_point, core):
            with self.assertRaises(NoPoints):
                call(BOXES2, NOTHING)
            with self.assertRaises(NoInside):
                call(BOXES2, CORNER)
        for call in (tight, is_bounded):
            with self.assertRaises(NoPoints):
                call(BOXES2, NOTHING)


if __name__ == "__main__":
    unittest.main()
