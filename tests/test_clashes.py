"""Promise 22, with 5 and 6: whether told rules meet, and their smallest clashes."""

import random
import unittest
from fractions import Fraction
from itertools import combinations

from clashsize.clashes import clash_number, clash_of, clashes, is_clash, meet, point_of
from clashsize.errors import InvalidBook, InvalidRules, TooLarge
from clashsize.kinds import is_point, obeys

from elimination import rule_rows, slow_meet
from samples import BOOKS, BOXES2, BOXES5, CURVE, HUGE, LINE, ODD_VALUES, ONE_WAY, QUARTER, SIX, THREE, TILTED, TWELVE
from samples import as_fraction, only_weights, random_book, random_fraction, random_rules, slow_knots

RULES = [(0, (-3, 1)), (1, (1, 1)), (2, (1, 1)), (2, (9, 1)), (1, (0, 1))]
CALLS = (meet, point_of, clash_number, clashes, clash_of)


def some_rules():
    """Tuples of a book and some rules, few enough for a look at each set of them."""
    source = random.Random(30)
    books = BOOKS + [random_book(source, *shape) for shape in [(1, 2, 1), (2, 5, 1), (2, 8, 3), (3, 6, 1), (3, 9, 2), (4, 7, 1)]]
    counts = [1, 2, 4, 6, 7, 8]
    return [(book, random_rules(source, book, count)) for book in books for count in counts]


def slow_clashes(book, rules):
    """All smallest clashes, by a look at each set of rules, by elimination."""
    found = []
    for size in range(1, len(rules) + 1):
        for indexes in combinations(range(len(rules)), size):
            apart = not any([set(other) <= set(indexes) for other in found])
            if apart and not slow_meet(rule_rows(book, [rules[index] for index in indexes])):
                found.append(indexes)
    weights = [only_weights([book[rules[index][0]] for index in indexes]) for indexes in found]
    return sorted([list(zip(indexes, some)) for indexes, some in zip(found, weights)])


class Meeting(unittest.TestCase):
    def test_told_rules(self):
        told = [(THREE, [], True), (THREE, RULES, False), (THREE, RULES[:1] + RULES[3:], True),
                (THREE, RULES[1:], True), (LINE, [(0, (-1, 1)), (1, (1, 1))], True),
                (LINE, [(0, (-1, 1)), (1, (HUGE - 1, HUGE))], False),
                (LINE, [(0, (-1, 1)), (1, (5, 1)), (1, (0, 1)), (1, (9, 1))], False),
                (ONE_WAY, [(0, (-HUGE, 1))] * 40, True)]
        for book, rules, answer in told:
            self.assertIs(meet(book, rules), answer, rules)
            self.assertIs(point_of(book, rules) is None, not answer)

    def test_against_an_elimination(self):
        answers = []
        for book, rules in some_rules():
            answers.append(slow_meet(rule_rows(book, rules)))
            self.assertIs(meet(book, rules), answers[-1], (book, rules))
            self.check_point(book, rules, answers[-1])
        self.assertGreater(min(answers.count(True), answers.count(False)), 15)

    def check_point(self, book, rules, exists):
        point = point_of(book, rules)
        self.assertIs(point is not None, exists)
        if exists:
            self.assertIs(is_point(book, point), True)
            self.assertIs(obeys(book, rules, point), True)

    def test_no_rules(self):
        for book in BOOKS + [CURVE, TWELVE]:
            self.check_point(book, [], True)
            self.assertEqual([call(book, []) for call in (meet, clash_number, clashes, clash_of)], [True, 0, [], None])

    def test_forty_rules(self):
        source = random.Random(31)
        answers = []
        for book in BOOKS + [CURVE, TWELVE, random_book(source, 5, 12, 20), random_book(source, 4, 12, 2)]:
            for low in (-3, 0, 2):
                point = [source.randint(-3, 3) for _ in book[0]]
                rules = []
                for _ in range(40):
                    number = source.randrange(len(book))
                    bound = sum([one * two for one, two in zip(book[number], point)]) + source.randint(low, 9)
                    rules.append((number, (bound, 1)))
                exists = meet(book, rules)
                answers.append(exists)
                self.check_point(book, rules, exists)
                self.assertIs(exists, clash_of(book, rules) is None)
                self.assertTrue(exists or low < 0)
        self.assertGreater(min(answers.count(True), answers.count(False)), 3)

    def test_a_point_between_bounds_that_differ_by_little(self):
        rules = [(0, (-HUGE, HUGE - 1)), (1, (HUGE - 1, HUGE - 2))]
        self.check_point(LINE, rules, True)
        self.check_point(LINE, [(0, (-HUGE, HUGE - 1)), (1, (HUGE, HUGE - 1))], True)
        self.check_point(LINE, [(0, (1 - HUGE, HUGE - 2)), (1, (HUGE, HUGE - 1))], False)


class Numbers(unittest.TestCase):
    def test_told_rules(self):
        told = [(THREE, RULES, [[(0, 1), (1, 1), (2, 1)], [(0, 1), (2, 1), (4, 1)]]),
                (LINE, [(0, (-1, 1)), (1, (0, 1)), (1, (0, 1))], [[(0, 1), (1, 1)], [(0, 1), (2, 1)]]),
                (LINE, [(1, (0, 1)), (0, (-1, 1)), (1, (1, 1))], [[(0, 1), (1, 1)]]), (LINE, [(0, (-1, 1))] * 40, []),
                ([(-3, -5), (0, 1), (2, 1)], [(2, (1, 3)), (0, (-5, 1)), (1, (1, 1))], [[(0, 3), (1, 2), (2, 7)]])]
        for book, rules, answer in told:
            self.assertEqual(clashes(book, rules), answer, rules)
            self.assertEqual(clash_number(book, rules), len(answer))

    def test_against_a_look_at_each_set(self):
        numbers = []
        for book, rules in some_rules():
            answer = slow_clashes(book, rules)
            numbers.append(len(answer))
            self.assertEqual(clashes(book, rules), answer, (book, rules))
            self.assertEqual(clash_number(book, rules), len(answer))
            self.check_one(book, rules, answer)
        self.assertGreater(max(numbers), 5)

    def check_one(self, book, rules, answer):
        found = clash_of(book, rules)
        if answer:
            self.assertIn(found, answer)
            self.assertIs(is_clash(book, rules, found), True)
        else:
            self.assertIsNone(found)

    def test_equal_rules_count_each(self):
        rules = [(0, (-1, 1))] * 3 + [(1, (0, 1))] * 4 + [(2, (0, 1))] * 5
        self.assertEqual(clash_number(THREE, rules), 60)
        found = clashes(THREE, rules)
        self.assertEqual(len(found), 60)
        self.assertEqual(found, sorted(found))
        self.assertEqual(len({tuple(clash) for clash in found}), 60)

    def test_just_400_and_more(self):
        rules = [(0, (-1, 1))] * 20 + [(1, (0, 1))] * 20
        self.assertEqual(clash_number(LINE, rules), 400)
        self.assertEqual(clashes(LINE, rules), [[(one, 1), (two, 1)] for one in range(20) for two in range(20, 40)])
        some = [(0, (-1, 1))] * 4 + [(0, (-2, 1))] + [(1, (0, 1))] * 7 + [(1, (-1, 1))] + [(2, (0, 1))] * 10
        self.assertEqual((clash_number(THREE, some), len(clashes(THREE, some))), (400, 400))
        # One rule more, which clashes with the least bounds of the others alone.
        more = some + [(2, (2, 1))]
        self.assertEqual(clash_number(THREE, more), 401)
        for rules in (more, [(0, (-1, 1))] * 13 + [(1, (0, 1))] * 13 + [(2, (0, 1))] * 14):
            with self.assertRaises(TooLarge) as caught:
                clashes(THREE, rules)
            self.assertEqual(caught.exception.limit, 400)
            self.assertIs(is_clash(THREE, rules, clash_of(THREE, rules)), True)

    def test_400_of_several_knots(self):
        rules = [(0, (-1, 1))] * 10 + [(3, (0, 1))] * 11 + [(1, (-1, 1))] * 10 + [(2, (0, 1))] * 9
        self.assertEqual((clash_number(BOXES2, rules), len(clashes(BOXES2, rules))), (200, 200))

    def test_great_numbers(self):
        self.assertEqual(clash_number(SIX, [(at % 6, (-1, 1)) for at in range(40)]), 7 ** 4 * 6 ** 2)
        rules = [(at % 12, (-1, 1)) for at in range(40)]
        counts = [[number for number, _ in rules].count(number) for number in range(12)]
        answer = 0
        for knot in slow_knots(CURVE):
            many = 1
            for number, _ in knot:
                many = many * counts[number]
            answer = answer + many
        self.assertEqual(clash_number(CURVE, rules), answer)

    def test_books_without_knots(self):
        for book in (ONE_WAY, QUARTER, TWELVE):
            rules = [(number, (-HUGE, 1)) for number in range(len(book))] * 3
            self.assertEqual([call(book, rules) for call in (meet, clash_number, clashes, clash_of)], [True, 0, [], None])

    def test_fractions(self):
        source = random.Random(32)
        for book in (LINE, THREE, TILTED, BOXES5):
            rules = [(source.randrange(len(book)), random_fraction(source)) for _ in range(9)]
            self.assertEqual(clashes(book, rules), slow_clashes(book, rules))


class IsClash(unittest.TestCase):
    def test_told_values(self):
        told = [([(0, 1), (1, 1), (2, 1)], True), ([(0, 1), (2, 1), (4, 1)], True), ([(0, 1), (1, 1), (3, 1)], False),
                ([(0, 1), (2, 1)], False), ([(1, 1), (0, 1), (2, 1)], False), ([(0, 2), (1, 2), (2, 2)], False),
                ([(0, 1), (1, 1), (2, True)], False), ([(False, 1), (1, 1), (2, 1)], False),
                ([(0, 1), (1, 1), (5, 1)], False), ([(-5, 1), (1, 1), (2, 1)], False),
                (((0, 1), (1, 1), (2, 1)), False), ([[0, 1], [1, 1], [2, 1]], False), ([], False),
                ([(0, 1), (1, 1), (1, 1), (2, 1)], False), ([(0, 1), (1, 1), (2, 1), (4, 1)], False),
                ([(0, 1), (1, 1), (2, 0)], False), ([(0, 1), (1, 1), (2, -1)], False),
                ([(0, 1, 0), (1, 1), (2, 1)], False)]
        for value, answer in told:
            self.assertIs(is_clash(THREE, RULES, value), answer, value)

    def test_sums_that_are_just_0(self):
        for bound, answer in [((0, 1), False), ((-1, HUGE), True), ((1, HUGE), False)]:
            self.assertIs(is_clash(LINE, [(1, bound), (0, (0, 1))], [(0, 1), (1, 1)]), answer)

    def test_weights_go_with_indexes(self):
        book = [(-3, -5), (0, 1), (2, 1)]
        rules = [(2, (1, 3)), (0, (-5, 1)), (1, (1, 1))]
        self.assertIs(is_clash(book, rules, [(0, 3), (1, 2), (2, 7)]), True)
        self.assertIs(is_clash(book, rules, [(0, 2), (1, 7), (2, 3)]), False)

    def test_against_a_look_at_each_set(self):
        source = random.Random(33)
        for book, rules in some_rules():
            answers = slow_clashes(book, rules)
            for value in answers:
                self.assertIs(is_clash(book, rules, value), True)
                for changed in (value[1:], value[::-1], value + value[-1:], [value], tuple(value),
                                [(index, weight + 1) for index, weight in value]):
                    self.assertIs(is_clash(book, rules, changed), False)
            for knot in slow_knots(book):
                places = [[at for at, rule in enumerate(rules) if rule[0] == number] for number, _ in knot]
                if all(places):
                    value = sorted([(source.choice(some), weight) for some, (_, weight) in zip(places, knot)])
                    total = sum([weight * as_fraction(rules[index][1]) for index, weight in value], Fraction(0))
                    self.assertIs(is_clash(book, rules, value), total < 0)
                    self.assertIs(value in answers, total < 0)

    def test_any_value(self):
        for value in ODD_VALUES:
            for rules in (RULES, []):
                self.assertIs(is_clash(THREE, rules, value), False, value)


class Wrong(unittest.TestCase):
    def test_wrong_rules(self):
        wrong = [(None, None), (RULES + [(3, (0, 1))], 5), ([None] * 41, None), (RULES + [RULES[0]] * 36, None),
                 (tuple(RULES), None), ([(0, (2, 2))], 0), ([RULES[0], [1, (0, 1)]], 1), ([(True, (0, 1))], 0)]
        for rules, index in wrong:
            for call in CALLS + (lambda book, given: is_clash(book, given, None),):
                with self.assertRaises(InvalidRules) as caught:
                    call(THREE, rules)
                self.assertEqual(caught.exception.index, index)
        self.assertIs(meet(THREE, RULES[1:] * 10), True)

    def test_the_book_comes_first(self):
        for call in CALLS + (lambda book, given: is_clash(book, given, None),):
            for book in (None, [], THREE[::-1], tuple(BOXES2)):
                with self.assertRaises(InvalidBook):
                    call(book, None)


if __name__ == "__main__":
    unittest.main()
