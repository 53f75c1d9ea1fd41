"""Promise 30, with 14: parties, which of them meet, and which are crowds."""

import random
import unittest
from itertools import combinations

from clashsize.clashes import clash_number, meet, point_of
from clashsize.errors import InvalidBook, InvalidParties, NoPoints
from clashsize.kinds import is_point, is_rules, obeys, world_of
from clashsize.knots import clash_size
from clashsize.parties import all_meet, combined, crowds, fewest_parties_out, meeting_place, party_clashes
from clashsize.ranges import apart, depth_of, fewest_left, have_meetings
from clashsize.tights import covering, same_points, tight
from clashsize.wholes import whole_forcing
from clashsize.worlds import forcing

from elimination import rule_rows, slow_meet
from samples import BOOKS, BOXES2, CURVE, DIFFERENCES4, GUESTS, HUGE, LEAN, LINE, ODD_VALUES, ONE_WAY, THREE, TILTED, TWELVE
from samples import as_fraction, random_book, random_rules

CALLS = [all_meet, party_clashes, crowds, fewest_parties_out, meeting_place, combined]
OPEN = [(0, (1, 1)), (1, (1, 1)), (2, (1, 1))]
BROKEN = [(0, (-1, 1)), (1, (0, 1)), (2, (0, 1))]


def all_rules(parties):
    return [rule for party in parties for rule in party]


def slow_clashes(book, parties):
    """The smallest sets of parties that clash, by a look at each set."""
    bad = {some for size in range(len(parties) + 1) for some in combinations(range(len(parties)), size)
           if not slow_meet(rule_rows(book, all_rules([parties[index] for index in some])))}
    return sorted([list(some) for some in bad if not any([set(other) < set(some) for other in bad])])


def slow_crowds(book, parties):
    for size in range(len(parties), -1, -1):
        found = [list(some) for some in combinations(range(len(parties)), size)
                 if slow_meet(rule_rows(book, all_rules([parties[index] for index in some])))]
        if found:
            return found
    return None


def random_parties(source, book, count, most):
    """Parties, some without rules, with bounds that let some of them meet."""
    return [random_rules(source, book, source.randint(0, most)) for _ in range(count)]


def some_parties():
    """Tuples of a book and parties, small enough for an elimination."""
    source = random.Random(100)
    shapes = [(1, 2, 1), (2, 3, 1), (2, 5, 2), (2, 8, 20), (3, 6, 1), (3, 9, 2), (4, 7, 1), (5, 7, 1)]
    books = BOOKS + [LEAN] + [random_book(source, *shape) for shape in shapes]
    return [(book, random_parties(source, book, count, most)) for book in books for count, most in
            [(1, 4), (3, 1), (4, 2), (5, 1), (5, 3)]]


class Meeting(unittest.TestCase):
    def test_told_parties(self):
        told = [(GUESTS, False), (GUESTS[1:], True), (GUESTS[:2] + GUESTS[3:], True), ([[]], True), ([[], []], True),
                ([OPEN], True), ([OPEN] * 8, True), ([BROKEN], False), ([[], BROKEN], False), ([BROKEN[:2], BROKEN[2:]], False)]
        for parties, answer in told:
            self.assertIs(all_meet(THREE, parties), answer, parties)
            self.assertIs(meeting_place(THREE, parties) is not None, answer)

    def test_bounds_that_are_just_met(self):
        for bound, answer in [((-1, 1), True), ((-HUGE, HUGE - 1), False), ((1 - HUGE, HUGE), True)]:
            self.assertIs(all_meet(LINE, [[(1, (1, 1))], [(0, bound)]]), answer)

    def test_against_an_elimination(self):
        answers = []
        for book, parties in some_parties():
            answers.append(slow_meet(rule_rows(book, all_rules(parties))))
            self.assertIs(all_meet(book, parties), answers[-1], (book, parties))
            self.assertIs(meet(book, all_rules(parties)), answers[-1])
            self.check_place(book, parties, answers[-1])
            self.check_combined(book, parties, answers[-1])
        self.assertGreater(min(answers.count(True), answers.count(False)), 10)

    def check_place(self, book, parties, answer):
        found = meeting_place(book, parties)
        self.assertIs(found is not None, answer)
        if answer:
            self.assertIs(is_point(book, found), True)
            self.assertTrue(all([obeys(book, party, found) for party in parties]))

    def check_combined(self, book, parties, answer):
        if answer:
            self.assertEqual(combined(book, parties), tight(book, world_of(book, all_rules(parties))))
            self.assertIs(same_points(book, combined(book, parties), world_of(book, all_rules(parties))), True)
        else:
            with self.assertRaises(NoPoints):
                combined(book, parties)

    def test_parties_with_all_rules_that_there_can_be(self):
        source = random.Random(101)
        for book in (CURVE, DIFFERENCES4, TWELVE):
            parties = [[(number, (source.randint(3, 30), 1)) for number in range(12)] for _ in range(8)]
            least = [(number, (min([party[number][1][0] for party in parties]), 1)) for number in range(12)]
            self.assertIs(all_meet(book, parties), True)
            self.assertEqual(meeting_place(book, parties), point_of(book, least))
            self.assertEqual(combined(book, parties), tight(book, [bound for _, bound in least]))

    def test_combined(self):
        self.assertEqual(combined(THREE, GUESTS[1:]), [None, (0, 1), (0, 1)])
        self.assertEqual(combined(TILTED, [[(3, (1, 1)), (2, (5, 1))], [(0, (1, 2))], [(1, (0, 1))]]),
                         [(1, 2), (0, 1), (5, 1), (1, 1)])
        self.assertEqual(combined(BOXES2, [[], [(3, (2, 1)), (3, (1, 2))]]), [None, None, None, (1, 2)])
        self.assertEqual(combined(LINE, [[]]), [None, None])

    def test_greater_bounds_of_tight_worlds_are_tight(self):
        """The fact of promise 10, for the worlds of two parties."""
        found = 0
        for book, parties in some_parties():
            if len(parties) > 1 and all_meet(book, parties[:1]) and all_meet(book, parties[1:2]):
                found = found + 1
                one, other = combined(book, parties[:1]), combined(book, parties[1:2])
                both = [None if None in pair else max(pair, key=as_fraction) for pair in zip(one, other)]
                self.assertEqual(tight(book, both), both)
                self.assertEqual(covering(book, one, other), both)
        self.assertGreater(found, 30)


class Clashes(unittest.TestCase):
    def test_told_parties(self):
        told = [(GUESTS, [[0, 1, 2]]), (GUESTS[1:], []), ([[]], []), ([BROKEN], [[0]]), ([BROKEN, [], BROKEN], [[0], [2]]),
                ([BROKEN[:2], BROKEN[2:], BROKEN[1:2]], [[0, 1]]), ([BROKEN[:1], BROKEN[2:], BROKEN[1:2]], [[0, 1, 2]]),
                ([BROKEN[:1], OPEN, BROKEN[1:], BROKEN[2:], BROKEN[1:2]], [[0, 2], [0, 3, 4]]),
                ([BROKEN[:1], BROKEN, BROKEN[1:]], [[0, 2], [1]])]
        for parties, answer in told:
            self.assertEqual(party_clashes(THREE, parties), answer, parties)

    def test_against_a_look_at_each_set(self):
        sizes = []
        for book, parties in some_parties():
            found = party_clashes(book, parties)
            sizes = sizes + [len(some) for some in found]
            self.assertEqual(found, slow_clashes(book, parties), (book, parties))
            self.assertLessEqual(max([len(some) for some in found], default=0), clash_size(book))
        self.assertLessEqual({1, 2, 3}, set(sizes))

    def test_as_many_parties_as_the_clash_size(self):
        """The facts of promises 6 and 8: a forcing world in parties of one rule each clashes only as a whole."""
        for book in BOOKS + [CURVE, DIFFERENCES4, LEAN]:
            size = clash_size(book)
            if size > 0:
                parties = [[rule] for rule in forcing(book)[0]]
                self.assertEqual(party_clashes(book, parties), [list(range(size))])
                self.assertEqual(crowds(book, parties), [list(some) for some in combinations(range(size), size - 1)])
                self.assertEqual(clash_number(book, all_rules(parties)), 1)

    def test_if_any_as_many_as_the_clash_size_meet_all_meet(self):
        held = 0
        source = random.Random(102)
        for book, _ in some_parties():
            parties = random_parties(source, book, 6, 2)
            size = min(clash_size(book), len(parties))
            if all([all_meet(book, list(some)) for some in combinations(parties, size)] if size else [True]):
                held = held + 1
                self.assertIs(all_meet(book, parties), True)
        self.assertGreater(held, 10)

    def test_eight_parties_of_great_books(self):
        source = random.Random(103)
        for book in (CURVE, DIFFERENCES4, TWELVE):
            parties = [[(source.randrange(12), (source.randint(-9, 9), 1)) for _ in range(12)] for _ in range(8)]
            found = party_clashes(book, parties)
            for some in found:
                chosen = [parties[index] for index in some]
                self.assertIs(all_meet(book, chosen), False)
                if len(some) > 1:
                    self.assertTrue(all([all_meet(book, chosen[:at] + chosen[at + 1:]) for at in range(len(some))]))
            most = crowds(book, parties)[0]
            self.assertEqual(fewest_parties_out(book, parties), 8 - len(most))
            if most:
                self.assertIs(all_meet(book, [parties[index] for index in most]), True)

    def test_whole_clashes_can_meet(self):
        parties = [[rule] for rule in whole_forcing(TILTED)[0]]
        self.assertEqual([len(parties), all_meet(TILTED, parties), party_clashes(TILTED, parties)], [4, True, []])


class Crowds(unittest.TestCase):
    def test_told_parties(self):
        told = [(GUESTS, [[0, 1, 3], [0, 2, 3], [1, 2, 3]]), (GUESTS[1:], [[0, 1, 2]]), ([[]], [[0]]), ([BROKEN], [[]]),
                ([BROKEN] * 8, [[]]), ([BROKEN, [], BROKEN], [[1]]), ([BROKEN[:2], BROKEN[2:]], [[0], [1]])]
        for parties, answer in told:
            self.assertEqual(crowds(THREE, parties), answer, parties)
            self.assertEqual(fewest_parties_out(THREE, parties), len(parties) - len(answer[0]))

    def test_against_a_look_at_each_set(self):
        numbers = []
        for book, parties in some_parties():
            answer = slow_crowds(book, parties)
            numbers.append(len(parties) - len(answer[0]))
            self.assertEqual(crowds(book, parties), answer, (book, parties))
            self.assertEqual(fewest_parties_out(book, parties), numbers[-1])
            # What is left out has one of each of the parties that clash.
            for crowd in answer:
                self.assertTrue(all([set(some) - set(crowd) for some in party_clashes(book, parties)]))
        self.assertLessEqual({0, 1, 2}, set(numbers))

    def test_a_book_without_knots(self):
        parties = [[(0, (-1, at + 1))] for at in range(8)]
        self.assertEqual(crowds(ONE_WAY, parties), [list(range(8))])
        self.assertEqual(party_clashes(ONE_WAY, parties), [])


class Ranges(unittest.TestCase):
    """The facts of promise 13, for parties with a least and a greatest value of one unknown."""

    def test_ranges_as_parties(self):
        source = random.Random(104)
        for _ in range(80):
            lows = [source.randint(-5, 5) for _ in range(source.randint(1, 8))]
            ranges = [(low, low + source.choice([0, 1, 3, 6])) for low in lows]
            parties = [[(0, (-low, 1)), (1, (high, 1))] for low, high in ranges]
            pairs = [list(pair) for pair in combinations(range(len(ranges)), 2)
                     if max(ranges[pair[0]][0], ranges[pair[1]][0]) > min(ranges[pair[0]][1], ranges[pair[1]][1])]
            self.assertEqual(party_clashes(LINE, parties), pairs)
            self.assertEqual({len(crowd) for crowd in crowds(LINE, parties)}, {depth_of(ranges)})
            self.assertEqual(fewest_parties_out(LINE, parties), fewest_left(ranges))
            self.assertIs(all_meet(LINE, parties), depth_of(ranges) == len(ranges))
            self.assertIs(all_meet(LINE, parties), have_meetings(ranges, len(ranges), len(ranges)))
            chosen = [parties[index] for index in apart(ranges)]
            self.assertEqual(len(party_clashes(LINE, chosen)), len(chosen) * (len(chosen) - 1) // 2)


class Wrong(unittest.TestCase):
    def index_of(self, call, parties):
        with self.assertRaises(InvalidParties, msg=parties) as caught:
            call(THREE, parties)
        return caught.exception.index

    def test_no_list_of_1_to_8_items(self):
        for call in CALLS:
            for parties in [[], [[]] * 9, ([],), {}, None, "parties", 0, [None] * 9]:
                self.assertIsNone(self.index_of(call, parties))

    def test_the_first_wrong_item(self):
        rule = (0, (1, 1))
        for call in CALLS:
            for item in [None, (rule,), [None], [rule] * 13, [(3, (1, 1))], [(-1, (1, 1))], [rule, (0, (2, 2))], [[0, (1, 1)]],
                         [(0, 1)], [(True, (1, 1))], rule, "0:1", {}, [[]], [(0, (1, 1), 0)]]:
                self.assertEqual(self.index_of(call, [item]), 0)
                self.assertEqual(self.index_of(call, [BROKEN, [], item, [], item]), 2)
        self.assertIs(all_meet(THREE, [[rule] * 12]), True)
        self.assertIs(is_rules(THREE, [rule] * 12), True)

    def test_any_value(self):
        for value in ODD_VALUES:
            for call in CALLS:
                if value != [[]]:
                    self.index_of(call, value)
                self.assertEqual(self.index_of(call, [[], value]), 1)

    def test_which_error_comes_first(self):
        for call in CALLS:
            for book in ODD_VALUES + [[], THREE[::-1]]:
                with self.assertRaises(InvalidBook):
                    call(book, None)
        self.assertEqual(self.index_of(combined, [BROKEN, None]), 1)
        with self.assertRaises(NoPoints):
            combined(THREE, [BROKEN])


if __name__ == "__main__":
    unittest.main()
