"""Promise 27, with 11: hidden unknowns, sights, what they show, and which points are seen."""

import random
import unittest
from fractions import Fraction
from functools import lru_cache
from itertools import combinations
from math import gcd

from clashsize.errors import InvalidBook, InvalidHidden, InvalidPoint, InvalidSight, InvalidWorld, NoPoints
from clashsize.kinds import beside, is_in, is_point, is_world
from clashsize.knots import balances
from clashsize.sights import barring, completed, is_barring, is_seen, seen_kinds, seen_rules, seen_size, shown, sights

from elimination import rows_of, slow_meet
from samples import BOOKS, BOXES2, BOXES5, CURVE, DIFFERENCES4, HUGE, LEAN, LINE, ODD_VALUES, ONE_WAY, QUARTER, SIX, THREE
from samples import TILTED, TWELVE, as_fraction, only_weights, pair_of, random_book, random_books, random_world, slow_dot
from samples import slow_knots

SIGHT = [(0, 1), (1, 1)]
LOOSE = [(2, 1), (1, 1), (0, 1)]
BARRING = ([(-1, 1), (0, 1), (1, 1)], ((0, 1),))
# A sight of the first and the last kind shows zeros if the second unknown is hidden.
BLIND = [(0, -1), (0, 1), (1, 1)]
SLANT = [(0, -3, 5), (0, 2, 1)]
MANY = [book for book in BOOKS + random_books() + [CURVE, DIFFERENCES4, TWELVE, LEAN, BLIND] if len(book[0]) > 1]


def hidden_of(book):
    """All lists of unknowns that can be hidden."""
    count = len(book[0])
    return [list(some) for size in range(1, count) for some in combinations(range(count), size)]


def some_hidden(count):
    """Tuples of a book and hidden unknowns, so many of each book."""
    source = random.Random(70)
    return [(book, hidden) for book in MANY for hidden in
            source.sample(hidden_of(book), min(count, len(hidden_of(book))))]


def slow_sights(book, hidden):
    """All sights, by a look at each set of kinds."""
    return [list(sight) for sight in kept_slow_sights(tuple(book), tuple(hidden))]


@lru_cache(maxsize=None)
def kept_slow_sights(book, hidden):
    """The same as tuples, kept."""
    found = []
    for size in range(1, len(hidden) + 2):
        for numbers in combinations(range(len(book)), size):
            weights = only_weights([tuple([book[number][unknown] for unknown in hidden]) for number in numbers])
            if weights is not None:
                found.append(tuple(zip(numbers, weights)))
    return sorted(found)


def slow_shown(book, hidden, sight):
    """What a sight shows, and what its sums are divided by."""
    sums = [sum([weight * book[number][unknown] for number, weight in sight])
            for unknown in range(len(book[0])) if unknown not in hidden]
    divisor = gcd(*sums) or 1
    return tuple([total // divisor for total in sums]), divisor


def slow_bound(book, world, hidden, sight):
    """The bound of a sight in a world; None if a kind has none."""
    if None in [world[number] for number, _ in sight]:
        return None
    total = sum([weight * as_fraction(world[number]) for number, weight in sight], Fraction(0))
    return total / slow_shown(book, hidden, sight)[1]


def slow_barred(book, world, hidden, point):
    """The sights with bounds that a point of the other unknowns does not obey."""
    found = []
    for sight in slow_sights(book, hidden):
        bound = slow_bound(book, world, hidden, sight)
        if bound is not None and slow_dot(slow_shown(book, hidden, sight)[0], point) > bound:
            found.append(sight)
    return found


def slow_seen(book, world, hidden, point):
    """Whether the hidden unknowns have numbers, by an elimination."""
    others = [unknown for unknown in range(len(book[0])) if unknown not in hidden]
    rows = []
    for kind, bound, strict in rows_of(book, world):
        rest = bound - slow_dot([kind[unknown] for unknown in others], point)
        rows.append((tuple([kind[unknown] for unknown in hidden]), rest, strict))
    return slow_meet(rows)


def some_points(source, book, world, hidden):
    """Points of the unknowns that are not hidden, some of which lie just where a sight bounds them."""
    count = len(book[0]) - len(hidden)
    found = [tuple([pair_of(Fraction(source.randint(-9, 9), source.choice([1, 1, 2, 7]))) for _ in range(count)])
             for _ in range(3)]
    bounds = [(slow_shown(book, hidden, sight)[0], slow_bound(book, world, hidden, sight))
              for sight in balances(book, hidden)]
    edges = [(what, bound) for what, bound in bounds if bound is not None and any(what)]
    for what, bound in source.sample(edges, min(3, len(edges))):
        place = [at for at, item in enumerate(what) if item][0]
        numbers = [as_fraction(item) for item in found[0]]
        rest = bound - sum([item * number for at, (item, number) in enumerate(zip(what, numbers)) if at != place], Fraction(0))
        numbers[place] = rest / what[place]
        found.append(tuple([pair_of(number) for number in numbers]))
        numbers[place] = numbers[place] + Fraction(1, HUGE) * (1 if what[place] > 0 else -1)
        found.append(tuple([pair_of(number) for number in numbers]))
    return found


class Sights(unittest.TestCase):
    def test_told_books(self):
        told = [(LEAN, [1], [[(0, 1), (1, 1)], [(1, 1), (2, 1)]]), (LEAN, [0], [[(0, 1), (2, 1)], [(1, 1)]]),
                (BLIND, [1], [[(0, 1), (1, 1)], [(0, 1), (2, 1)]]), (QUARTER, [0], [[(0, 1)]]), (QUARTER, [1], [[(1, 1)]]),
                ([(0, 1)], [1], []), ([(0, 1)], [0], [[(0, 1)]]), (SLANT, [1], [[(0, 2), (1, 3)]]),
                (SLANT, [0, 1], [[(0, 2), (1, 3)]]), (SLANT, [1, 2], []), (SLANT, [0], [[(0, 1)], [(1, 1)]])]
        for book, hidden, answer in told:
            self.assertEqual(sights(book, hidden), answer, (book, hidden))

    def test_against_a_look_at_each_set(self):
        numbers = []
        for book, hidden in some_hidden(4):
            found = sights(book, hidden)
            numbers.append(len(found))
            self.assertEqual(found, slow_sights(book, hidden), (book, hidden))
            self.assertEqual(found, sorted(found))
        self.assertEqual((min(numbers) == 0, max(numbers) > 60), (True, True))

    def test_great_books(self):
        numbers = [len(sights(CURVE, hidden)) for hidden in ([0], [1], [4], [0, 1], [2, 3, 4], [0, 1, 2, 3])]
        self.assertEqual(numbers, [len(slow_sights(CURVE, hidden)) for hidden in
                                   ([0], [1], [4], [0, 1], [2, 3, 4], [0, 1, 2, 3])])

    def test_one_unknown_cannot_be_hidden(self):
        for book in (LINE, ONE_WAY):
            for hidden in ([0], [], [1]):
                with self.assertRaises(InvalidHidden):
                    sights(book, hidden)


class Shown(unittest.TestCase):
    def test_told_sights(self):
        told = [(LEAN, [1], SIGHT, (-1,)), (LEAN, [1], [(1, 1), (2, 1)], (1,)), (LEAN, [0], [(0, 1), (2, 1)], (1,)),
                (LEAN, [0], [(1, 1)], (-1,)), (BLIND, [1], [(0, 1), (1, 1)], (0,)), (BLIND, [1], [(0, 1), (2, 1)], (1,)),
                (SLANT, [1], [(0, 2), (1, 3)], (0, 1)), (SIX, [4], [(0, 1), (1, 1)], (-1, -1, -1, -1)),
                ([(-4, 6, 1), (2, 0, -1)], [2], [(0, 1), (1, 1)], (-1, 3))]
        for book, hidden, sight, answer in told:
            self.assertEqual(shown(book, hidden, sight), answer, (book, hidden))

    def test_against_sums(self):
        for book, hidden in some_hidden(4):
            for sight in sights(book, hidden):
                found = shown(book, hidden, sight)
                self.assertEqual(found, slow_shown(book, hidden, sight)[0])
                self.assertIs(type(found), tuple)
                self.assertIn(gcd(*found), (0, 1))

    def test_wrong_sights(self):
        wrong = [[], SIGHT[:1], SIGHT[::-1], [(0, 2), (1, 2)], tuple(SIGHT), [(0, 1), (2, 1)], [(0, 1), (1, 2)],
                 [(0, 1), (1, True)], [(0, 1), (1, 1), (2, 0)], [(0, 1), (1, 2), (2, 1)], [[0, 1], [1, 1]],
                 [(0, 1), (3, 1)], [(-3, 1), (1, 1)], [(0, -1), (1, -1)], [(0, 1, 1), (1, 1, 1)], "sight", 0]
        for sight in wrong + ODD_VALUES:
            for call in (shown, barring, lambda book, hidden, sight: is_barring(book, hidden, sight, BARRING)):
                with self.assertRaises(InvalidSight, msg=sight):
                    call(LEAN, [1], sight)

    def test_a_knot_can_be_more_than_a_sight(self):
        for sight in [[(0, 1), (1, 1), (2, 1)], [(0, 1), (2, 1)]]:
            with self.assertRaises(InvalidSight):
                shown(THREE, [1], sight)
        self.assertEqual(shown(THREE, [1], [(0, 1), (1, 1)]), (-1,))
        self.assertEqual(shown(THREE, [1], [(2, 1)]), (1,))


class Seen(unittest.TestCase):
    def test_seen_kinds(self):
        told = [(LEAN, [1], [(-1,), (1,)]), (LEAN, [0], [(-1,), (1,)]), (BLIND, [1], [(1,)]), (BOXES2, [0], [(-1,), (1,)]),
                (QUARTER, [0], [(1,)]), ([(0, 1)], [1], []), ([(-1, 0), (1, 0)], [0], []),
                ([(-4, 6, 1), (2, 0, -1)], [2], [(-1, 3)]), ([(-20, 20, 1), (20, 19, -20)], [2], [(-380, 419)])]
        for book, hidden, answer in told:
            self.assertEqual(seen_kinds(book, hidden), answer, (book, hidden))

    def test_seen_kinds_against_a_look_at_each_set(self):
        for book, hidden in some_hidden(4):
            tuples = {slow_shown(book, hidden, sight)[0] for sight in slow_sights(book, hidden)}
            self.assertEqual(seen_kinds(book, hidden), sorted([what for what in tuples if any(what)]))

    def test_seen_rules(self):
        told = [(LEAN, [(2, 1), (1, 1), None], [1], [((-1,), (3, 1))]), (LEAN, [None] * 3, [1], []),
                (LEAN, LOOSE, [1], [((-1,), (3, 1)), ((1,), (1, 1))]), (LEAN, LOOSE, [0], [((-1,), (1, 1)), ((1,), (1, 1))]),
                (BLIND, [(0, 1), (0, 1), (1, 2)], [1], [((1,), (1, 2))]), (BLIND, [(0, 1), (0, 1), None], [1], []),
                ([(-4, 6, 1), (2, 0, -1)], [(1, 1), (1, 3)], [2], [((-1, 3), (2, 3))]),
                # Two sights show the same, and the second one has the lesser bound.
                ([(1, -1, 1), (1, 0, -1), (1, 1, -1)], [(4, 1), (3, 1), (1, 1)], [2], [((1, 0), (5, 2)), ((2, -1), (7, 1))])]
        for book, world, hidden, answer in told:
            self.assertEqual(seen_rules(book, world, hidden), answer, (book, hidden))

    def test_seen_rules_against_a_look_at_each_set(self):
        source = random.Random(71)
        answers = []
        for book, hidden in some_hidden(2):
            for _ in range(3):
                world = random_world(source, book)
                found = {}
                for sight in slow_sights(book, hidden):
                    what, bound = slow_shown(book, hidden, sight)[0], slow_bound(book, world, hidden, sight)
                    if bound is not None and any(what):
                        found[what] = min(bound, found.get(what, bound))
                has_points = all([total is None or total >= 0 for total in
                                  [slow_bound(book, world, [], knot) for knot in slow_knots(book)]])
                answers.append(has_points)
                if has_points:
                    answer = sorted([(what, pair_of(bound)) for what, bound in found.items()])
                    self.assertEqual(seen_rules(book, world, hidden), answer)
                else:
                    with self.assertRaises(NoPoints):
                        seen_rules(book, world, hidden)
        self.assertGreater(min(answers.count(True), answers.count(False)), 20)

    def test_told_points(self):
        told = [(LEAN, LOOSE, [1], (1, 1), True), (LEAN, LOOSE, [1], (HUGE + 1, HUGE), False), (LEAN, LOOSE, [1], (-3, 1), True),
                (LEAN, LOOSE, [1], (-7, 2), False), (LEAN, [None] * 3, [1], (HUGE, 1), True),
                (LEAN, [(2, 1), (1, 1), None], [1], (HUGE, 1), True), (BLIND, [(-1, 1), (0, 1), None], [1], (0, 1), False),
                (BLIND, [(0, 1), (0, 1), None], [1], (5, 1), True), (BLIND, [(-1, 1), (0, 1), None], [0], (0, 1), False)]
        for book, world, hidden, item, answer in told:
            self.assertIs(is_seen(book, world, hidden, (item,)), answer, (book, world, item))
            self.assertIs(completed(book, world, hidden, (item,)) is not None, answer)

    def test_points_obey_all_sights_exactly_if_they_can_be_completed(self):
        source = random.Random(72)
        answers = []
        for book, hidden in some_hidden(4):
            if len(book) <= 9:
                world = random_world(source, book)
                for point in some_points(source, book, world, hidden):
                    answers.append(slow_seen(book, world, hidden, point))
                    self.assertIs(slow_barred(book, world, hidden, point) == [], answers[-1])
                    self.assertIs(is_seen(book, world, hidden, point), answers[-1])
                    self.check_completed(book, world, hidden, point, answers[-1])
        self.assertGreater(min(answers.count(True), answers.count(False)), 60)

    def check_completed(self, book, world, hidden, point, answer):
        found = completed(book, world, hidden, point)
        self.assertIs(found is not None, answer)
        if answer:
            self.assertIs(is_point(book, found), True)
            self.assertIs(is_in(book, world, found), True)
            self.assertEqual(tuple([found[unknown] for unknown in range(len(found)) if unknown not in hidden]), point)

    def test_great_books(self):
        source = random.Random(73)
        answers = []
        for book in (CURVE, random_book(source, 5, 12, 2), DIFFERENCES4, TWELVE):
            world = [(source.randint(0, 9), 1) for _ in book]
            for hidden in hidden_of(book):
                for point in some_points(source, book, world, hidden)[-2:]:
                    answer = all([slow_dot(what, point) <= as_fraction(bound)
                                  for what, bound in seen_rules(book, world, hidden)])
                    answers.append(answer)
                    self.assertIs(is_seen(book, world, hidden, point), answer)
                    self.check_completed(book, world, hidden, point, answer)
        self.assertGreater(min(answers.count(True), answers.count(False)), 5)

    def test_points_of_points_are_seen(self):
        source = random.Random(74)
        for book, hidden in some_hidden(3):
            point = tuple([pair_of(source.randint(-5, 5)) for _ in book[0]])
            world = [pair_of(slow_dot(kind, point)) for kind in book]
            rest = tuple([point[unknown] for unknown in range(len(point)) if unknown not in hidden])
            self.check_completed(book, world, hidden, rest, True)


class Sizes(unittest.TestCase):
    def test_told_books(self):
        told = [(LEAN, [1], 2), (BLIND, [1], 0), (QUARTER, [0], 0), (BOXES5, [0], 2), (BOXES5, [1, 3], 2), (SIX, [0], 5),
                (SIX, [0, 4], 4), (SIX, [0, 1, 2, 3], 2), (DIFFERENCES4, [0], 3), ([(0, 1)], [1], 0), (CURVE, [0], 5)]
        for book, hidden, answer in told:
            self.assertEqual(seen_size(book, hidden), answer, (book, hidden))

    def test_against_a_look_at_each_set(self):
        answers = []
        for book, hidden in some_hidden(4):
            kinds = seen_kinds(book, hidden)
            if len(kinds) < 16:
                answers.append(seen_size(book, hidden))
                self.assertEqual(answers[-1], max([len(knot) for knot in slow_knots(kinds)] if kinds else [], default=0))
        self.assertEqual({0, 2, 3, 4, 5}, set(answers))

    def test_many_sights(self):
        """As many tuples can be shown as sets of kinds hold."""
        for hidden in ([0], [0, 1], [0, 1, 2], [0, 1, 2, 3], [4], [3, 4], [1, 2, 4]):
            self.assertEqual(seen_size(CURVE, hidden), 6 - len(hidden))

    def test_parts_on_unknowns_of_their_own(self):
        source = random.Random(75)
        for _ in range(5):
            one = random_book(source, 3, 7, 2)
            book = beside(one, TILTED)
            self.assertEqual(seen_size(book, [0]), max(seen_size(one, [0]), 2))
            self.assertEqual(seen_size(book, [0, 1, 2]), 2)
            self.assertEqual(seen_size(book, [3, 4]), max([len(knot) for knot in slow_knots(one)], default=0))


class Barring(unittest.TestCase):
    def test_each_sight(self):
        zeros = 0
        for book, hidden in some_hidden(2):
            for sight in sights(book, hidden)[:12]:
                if any(shown(book, hidden, sight)):
                    self.check(book, hidden, sight)
                else:
                    zeros = zeros + 1
                    with self.assertRaises(InvalidSight):
                        barring(book, hidden, sight)
        self.assertGreater(zeros, 5)

    def check(self, book, hidden, sight):
        found = barring(book, hidden, sight)
        self.assertIs(type(found), tuple)
        world, point = found
        self.assertIs(is_world(book, world), True)
        self.assertEqual((type(point), len(point)), (tuple, len(book[0]) - len(hidden)))
        for knot in slow_knots(book):
            total = slow_bound(book, world, [], knot)
            self.assertTrue(total is None or total >= 0)
        self.assertEqual(slow_barred(book, world, hidden, point), [sight])
        self.assertIs(is_barring(book, hidden, sight, found), True)

    def test_told_values(self):
        world, point = BARRING
        told = [(BARRING, True), ((world, ((1, 1),)), False), ((world, ((3, 2),)), False), ((world, ((-1, 1),)), True),
                ((world, ((HUGE - 1, HUGE),)), True),
                ((world, ((-1, 1), (0, 1))), False), ((world, ()), False), ((world, [(0, 1)]), False), ([world, point], False),
                ((world,), False), ((world, point, point), False), ((tuple(world), point), False), ((world[:2], point), False),
                (([(-1, 1), (0, 1), None], point), True), (([(-1, 1), None, (1, 1)], point), False),
                (([None, (0, 1), (1, 1)], point), False), (([None] * 3, point), False), ((world, ((0, 2),)), False),
                (([(-HUGE, 1), (0, 1), (1, 1)], ((HUGE - 1, 1),)), False), (([(-1, HUGE), (0, 1), (1, 1)], point), True),
                (([(0, 1), (0, 1), (1, 1)], point), False)]
        for value, answer in told:
            self.assertIs(is_barring(LEAN, [1], SIGHT, value), answer, value)

    def test_a_world_without_points_bars_nothing(self):
        book, sight = THREE, [(0, 1), (1, 1)]
        self.assertEqual(sights(book, [1]), [sight, [(2, 1)]])
        self.assertIs(is_barring(book, [1], sight, ([(-1, 1), (0, 1), (0, 1)], ((0, 1),))), False)
        self.assertIs(is_barring(book, [1], sight, ([(-1, 1), (0, 1), (1, 1)], ((0, 1),))), True)

    def test_a_sight_that_shows_zeros(self):
        sight = [(0, 1), (1, 1)]
        with self.assertRaises(InvalidSight):
            barring(BLIND, [1], sight)
        for world in ([(-1, 1), (0, 1), (5, 1)], [(0, 1), (0, 1), (0, 1)], [(-1, 1), (0, 1), None]):
            self.assertIs(is_barring(BLIND, [1], sight, (world, ((0, 1),))), False)

    def test_against_the_words_of_the_document(self):
        source = random.Random(76)
        answers = []
        for book, hidden in some_hidden(2):
            if len(book) <= 8:
                world = random_world(source, book)
                found = slow_sights(book, hidden)
                for point in some_points(source, book, world, hidden):
                    barred = slow_barred(book, world, hidden, point)
                    for sight in (barred + found)[:3]:
                        answers.append(barred == [sight] and slow_meet(rows_of(book, world)))
                        self.assertIs(is_barring(book, hidden, sight, (world, point)), answers[-1])
        self.assertGreater(min(answers.count(True), answers.count(False)), 20)

    def test_any_value(self):
        world, point = BARRING
        for value in ODD_VALUES:
            self.assertIs(is_barring(LEAN, [1], SIGHT, value), False)
            self.assertIs(is_barring(LEAN, [1], SIGHT, (value, point)), False)
            self.assertIs(is_barring(LEAN, [1], SIGHT, (world, value)), False)


class Wrong(unittest.TestCase):
    ABOUT_HIDDEN = [
        sights, seen_kinds, seen_size, lambda book, hidden: shown(book, hidden, None),
        lambda book, hidden: barring(book, hidden, None), lambda book, hidden: is_barring(book, hidden, None, None),
    ]
    # No point is in this world, but the errors of the parameters come first.
    EMPTY = [(-1, 1), (0, 1), (0, 1)]

    def test_wrong_hidden(self):
        wrong = [[], [0, 1], [1, 0], [2], [-1], [0, 0], (0,), 0, None, "0", {0: 1}, [None], [(0,)], ["0"], [[0]], [True],
                 [False], [0, 1, 2], [10 ** 59]]
        for hidden in wrong + ODD_VALUES:
            for call in self.ABOUT_HIDDEN:
                with self.assertRaises(InvalidHidden, msg=hidden):
                    call(THREE, hidden)
            for call in (lambda: seen_rules(THREE, self.EMPTY, hidden), lambda: is_seen(THREE, self.EMPTY, hidden, None),
                         lambda: completed(THREE, self.EMPTY, hidden, None)):
                with self.assertRaises(InvalidHidden, msg=hidden):
                    call()

    def test_five_unknowns(self):
        for hidden in [[0, 2, 1], [0, 0, 1], [0, 1, 2, 3, 4], [1, 5], [-1, 2], [0, True]]:
            with self.assertRaises(InvalidHidden):
                sights(BOXES5, hidden)
        self.assertEqual(len(sights(BOXES5, [0, 1, 2, 3])), 6)

    def test_wrong_points(self):
        wrong = [None, (), ((0, 1), (0, 1)), [(0, 1)], ((0, 2),), ((1, -1),), (0,), (0, 1), ("0/1",), ((True, 1),), (None,)]
        for point in wrong + ODD_VALUES:
            for call in (is_seen, completed):
                with self.assertRaises(InvalidPoint, msg=point):
                    call(THREE, self.EMPTY, [0], point)

    def test_points_of_three_unknowns(self):
        for point in [((0, 1),) * 5, ((0, 1),) * 2, ((0, 1),) * 4, ((0, 1), (0, 2), (0, 1)), ((0, 1), (0, 1), None)]:
            with self.assertRaises(InvalidPoint):
                is_seen(BOXES5, [None] * 10, [0, 4], point)
        self.assertIs(is_seen(BOXES5, [None] * 10, [0, 4], ((0, 1),) * 3), True)

    def test_which_error_comes_first(self):
        for call in self.ABOUT_HIDDEN:
            with self.assertRaises(InvalidBook):
                call(THREE[::-1], None)
        for call in (lambda book, world: seen_rules(book, world, None), lambda book, world: is_seen(book, world, None, None),
                     lambda book, world: completed(book, world, None, None)):
            with self.assertRaises(InvalidBook):
                call(THREE[::-1], None)
            with self.assertRaises(InvalidWorld):
                call(THREE, [None] * 2)
        with self.assertRaises(NoPoints):
            seen_rules(THREE, self.EMPTY, [0])
        self.assertIs(is_seen(THREE, self.EMPTY, [0], ((0, 1),)), False)
        self.assertIsNone(completed(THREE, self.EMPTY, [0], ((0, 1),)))


if __name__ == "__main__":
    unittest.main()
