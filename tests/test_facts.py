"""The document as a whole: what one function tells is what the others tell."""

import random
import unittest

from clashsize.board import CountingBoard
from clashsize.changes import adds_knots, blocking, fewest_out, needed_kinds, size_with
from clashsize.clashes import clash_number, clash_of, clashes, meet, point_of
from clashsize.families import box_size, boxes, differences, fan_numbers, ring_number, ring_total
from clashsize.kinds import beside, is_in, mixed, opposites, rank, world_of
from clashsize.knots import clash_size, greatest_knot, knot_numbers, knots, knots_with
from clashsize.leasts import least_point, lesser_closed
from clashsize.moves import holding, loosening, meeting_times, moved
from clashsize.parties import all_meet, combined, crowds, fewest_parties_out, meeting_place, party_clashes
from clashsize.parts import components, falling, free_kinds, is_two_sided, pairs_enough
from clashsize.ranges import depth_of, fewest_left
from clashsize.sights import completed, is_seen, seen_rules, seen_size, sights
from clashsize.tights import dimension, has_inside, idle, is_bounded, same_points, tight
from clashsize.ways import conclusion_size, follows, greatest, rising
from clashsize.wholes import is_level, whole_size
from clashsize.worlds import broken, forcing, has_points

from samples import BOOKS, CURVE, DIFFERENCES4, LEAN, LINE, TWELVE, as_fraction, pair_of, random_book
from samples import random_books, random_rules, random_world, slow_rank

MANY = BOOKS + random_books() + [DIFFERENCES4, TWELVE, LEAN]
ZERO = (0, 1)


def unit(book, unknown, sign=1):
    return tuple([sign if at == unknown else 0 for at in range(len(book[0]))])


class Books(unittest.TestCase):
    def test_sizes(self):
        for book in MANY + [CURVE]:
            size = clash_size(book)
            sizes = [len(knot) for knot in knots(book)]
            self.assertEqual(size, max(sizes, default=0))
            self.assertEqual(knot_numbers(book), [sizes.count(count) for count in range(2, len(book[0]) + 2)])
            self.assertEqual(len(greatest_knot(book) or []), size)
            self.assertEqual(len(forcing(book)[0]) if size else 0, size)
            self.assertLessEqual(size, rank(book) + 1)
            self.assertIs(pairs_enough(book), size <= 2)
            self.assertEqual([clash_size(opposites(book)), knots(book) == []], [size, falling(book) is not None])

    def test_free_kinds(self):
        for book in MANY:
            free = [number for number in range(len(book)) if not knots_with(book, number)]
            self.assertEqual(free_kinds(book), free)
            if is_two_sided(book):
                self.assertEqual(free, [])
            tied = [kind for number, kind in enumerate(book) if number not in free]
            lines = {max(kind, tuple([-item for item in kind])) for kind in tied}
            in_pairs = len(tied) == 2 * len(lines) and slow_rank(sorted(lines)) == len(lines)
            self.assertIs(clash_size(book) == 2, bool(tied) and in_pairs)

    def test_a_kind_more_and_a_kind_less(self):
        for book in [book for book in MANY if len(book) > 1]:
            for number in range(0, len(book), 3):
                fewer = book[:number] + book[number + 1:]
                self.assertEqual(size_with(fewer, book[number]), clash_size(book))
                self.assertEqual(adds_knots(fewer, book[number]), len(knots_with(book, number)))
                self.assertIs(blocking(fewer, book[number]) is not None, number in free_kinds(book))
                self.assertIs(number in needed_kinds(book), clash_size(fewer) < clash_size(book))

    def test_kinds_left_out(self):
        for book in [book for book in MANY if len(book) < 10]:
            for size in range(clash_size(book) + 1):
                for out in fewest_out(book, size)[:5]:
                    rest = [kind for number, kind in enumerate(book) if number not in out]
                    self.assertTrue(not rest or clash_size(rest) <= size)
            self.assertEqual(fewest_out(book, clash_size(book)), [[]])

    def test_components_hold_all_knots(self):
        for book in MANY:
            found = [knots([book[number] for number in part]) for part in components(book)]
            self.assertEqual(len(knots(book)), sum([len(part) for part in found]))

    def test_families(self):
        for number in (2, 3, 4):
            book = differences(number)
            self.assertEqual([len(knots(book)), len(components(book))], [ring_total(number), 1])
            self.assertEqual(knot_numbers(book)[:number - 1], [ring_number(number, size) for size in range(2, number + 1)])
            self.assertIs(is_level(book), True)
        source = random.Random(130)
        for _ in range(30):
            kind = random_book(source, source.randint(1, 5), 1, source.choice([1, 2, 20]))[0]
            self.assertEqual(box_size(kind), size_with(boxes(len(kind)), kind))
            fan = random_book(source, 2, source.randint(1, 12), 9)
            self.assertEqual(fan_numbers(fan), tuple(knot_numbers(fan)))

    def test_unknowns_of_their_own_and_mixed_unknowns(self):
        source = random.Random(131)
        for _ in range(20):
            one, other = random_book(source, 2, 5, 2), random_book(source, 3, 6, 1)
            both = beside(one, other)
            self.assertEqual(clash_size(both), max(clash_size(one), clash_size(other)))
            self.assertEqual(len(knots(both)), len(knots(one)) + len(knots(other)))
            self.assertEqual(seen_size(both, [0, 1]), clash_size(other))
            turned = mixed(one, ((1, 2), (0, 1)))
            self.assertEqual([knot_numbers(turned), whole_size(turned)], [knot_numbers(one), whole_size(one)])

    def test_whole_sizes_and_goals(self):
        for book in MANY:
            if len(book[0]) < 3 or is_level(book):
                self.assertTrue(clash_size(book) <= whole_size(book) <= 2 ** len(book[0]))
            for number in range(0, len(book), 4):
                # A kind of the book is a way to itself.
                self.assertGreaterEqual(conclusion_size(book, book[number]), 1)


class Worlds(unittest.TestCase):
    def some_worlds(self, count=3):
        source = random.Random(132)
        return [(book, random_world(source, book)) for book in MANY for _ in range(count)]

    def test_whether_rules_meet(self):
        answers = []
        for book, world in self.some_worlds():
            rules = [(number, bound) for number, bound in enumerate(world) if bound is not None]
            answer = has_points(book, world)
            answers.append(answer)
            self.assertEqual(world_of(book, rules), world)
            told = [meet(book, rules), point_of(book, rules) is not None, clash_of(book, rules) is None,
                    clash_number(book, rules) == 0, broken(book, world) == [], dimension(book, world) >= 0]
            told = told + [loosening(book, world, [1] * len(book)) == ZERO, all_meet(book, [rules[:12]]),
                           meeting_times(book, world, [ZERO] * len(book)) == (None, None)]
            self.assertEqual(told, [answer] * len(told), (book, world))
            self.assertEqual(len(broken(book, world)), clash_number(book, rules))
            if not answer:
                self.check_loosened(book, world)
        self.assertGreater(min(answers.count(True), answers.count(False)), 20)

    def check_loosened(self, book, world):
        firmness = [1 + at % 3 for at in range(len(book))]
        step = loosening(book, world, firmness)
        speeds = [(number, 1) for number in firmness]
        self.assertIs(has_points(book, moved(book, world, speeds, step)), True)
        self.assertEqual(meeting_times(book, world, speeds), (step, None))
        self.assertNotEqual(holding(book, world, firmness), [])
        self.assertIs(has_inside(book, moved(book, world, speeds, step)), False)

    def test_tight_worlds_and_goals(self):
        for book, world in self.some_worlds(1):
            if has_points(book, world):
                found = tight(book, world)
                self.assertEqual([greatest(book, world, kind) for kind in book], found)
                self.assertIs(same_points(book, world, found), True)
                rules = [(number, bound) for number, bound in enumerate(world) if bound is not None]
                self.assertEqual(combined(book, [rules[:6], rules[6:]]), found)
                self.assertEqual([number for number in idle(book, found) if found[number] is None], [])
                for kind, bound in zip(book, found):
                    self.assertIs(rising(book, world, kind) is None, bound is not None)
                    if bound is not None:
                        self.assertIs(follows(book, world, kind, bound), True)
                        self.assertIs(follows(book, world, kind, pair_of(as_fraction(bound) - 1)), False)

    def test_one_unknown_is_seen_between_its_limits(self):
        for book, world in self.some_worlds():
            if len(book[0]) > 1 and has_points(book, world):
                hidden = list(range(1, len(book[0])))
                rules = dict(seen_rules(book, world, hidden))
                self.assertEqual(rules.get((1,)), greatest(book, world, unit(book, 0)))
                self.assertEqual(rules.get((-1,)), greatest(book, world, unit(book, 0, -1)))
                for bound in rules.values():
                    for item in (bound, (-bound[0], bound[1])):
                        found = completed(book, world, hidden, (item,))
                        self.assertIs(is_seen(book, world, hidden, (item,)), found is not None)
                        self.assertIs(found is None or is_in(book, world, found), True)

    def test_bounded_worlds(self):
        for book, world in self.some_worlds():
            if has_points(book, world):
                ends = [greatest(book, world, unit(book, at, sign)) for at in range(len(book[0])) for sign in (1, -1)]
                self.assertIs(is_bounded(book, world), None not in ends)
                if lesser_closed(book):
                    lows = ends[1::2]
                    answer = None if None in lows else tuple([(-low[0], low[1]) for low in lows])
                    self.assertEqual(least_point(book, world), answer)


class Parties(unittest.TestCase):
    def test_parties_of_one_rule(self):
        source = random.Random(133)
        for book in MANY:
            rules = random_rules(source, book, 6)
            parties = [[rule] for rule in rules]
            found = sorted([sorted([index for index, _ in clash]) for clash in clashes(book, rules)])
            self.assertEqual(party_clashes(book, parties), found)
            self.assertEqual(meeting_place(book, parties), point_of(book, rules))
            self.assertEqual(fewest_parties_out(book, parties), 6 - len(crowds(book, parties)[0]))

    def test_boards(self):
        source = random.Random(134)
        for book in MANY:
            board = CountingBoard(book)
            opens = [True]
            for _ in range(6):
                board.add(random_rules(source, book, 2))
                opens.append(all_meet(book, [party for _, party in board.guests]))
                self.assertIs(board.is_open, opens[-1])
            # Parties that clash never meet again if more come.
            self.assertEqual(board.closings, int(not opens[-1]))

    def test_ranges(self):
        source = random.Random(135)
        for _ in range(40):
            lows = [source.randint(-9, 9) for _ in range(source.randint(1, 8))]
            ranges = [(low, low + source.randint(0, 9)) for low in lows]
            parties = [[(0, (-low, 1)), (1, (high, 1))] for low, high in ranges]
            self.assertEqual(fewest_parties_out(LINE, parties), fewest_left(ranges))
            self.assertEqual(len(crowds(LINE, parties)[0]), depth_of(ranges))


class Sights(unittest.TestCase):
    def test_sights_of_all_but_one_unknown_hold_the_knots(self):
        """A knot is a sight or a sum of sights: a world breaks it only if some sight or two of them tell it."""
        for book in [book for book in MANY if len(book[0]) > 1]:
            hidden = list(range(1, len(book[0])))
            found = sights(book, hidden)
            for knot in knots(book):
                numbers = {number for number, _ in knot}
                parts = [sight for sight in found if {number for number, _ in sight} <= numbers]
                self.assertIn(len(parts), (1, 2))
                self.assertEqual({number for sight in parts for number, _ in sight}, numbers)


if __name__ == "__main__":
    unittest.main()
