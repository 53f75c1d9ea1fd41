"""Promises 31 and 32: boards call by call, on all four classes."""

import copy
import random
import unittest
from itertools import combinations

from clashsize.board import Board, CountingBoard, GuardedBoard, GuardedCountingBoard
from clashsize.errors import Clash, InvalidBook, InvalidNumber, InvalidParty, NothingToUndo, RuleError, TooLarge
from clashsize.knots import clash_size
from clashsize.parties import all_meet, crowds, party_clashes
from clashsize.ranges import crowded, depth_of
from clashsize.tights import tight
from clashsize.worlds import forcing

from elimination import rule_rows, slow_meet
from samples import BOOKS, BOXES2, CURVE, DIFFERENCES4, GUESTS, HUGE, LEAN, LINE, ODD_VALUES, ONE_WAY, THREE, TILTED
from samples import random_book, random_rules

CLASSES = [Board, GuardedBoard, CountingBoard, GuardedCountingBoard]
GUARDED = [GuardedBoard, GuardedCountingBoard]
COUNTING = [CountingBoard, GuardedCountingBoard]
LOW, HIGH = [(0, (-3, 1))], [(1, (2, 1))]
WRONG_PARTIES = [None, (LOW[0],), [None], LOW * 13, [(2, (1, 1))], [(-1, (1, 1))], [(0, (2, 2))], [[0, (1, 1)]], [(0, 1)],
                 [(True, (1, 1))], LOW[0], "0:1", {}, [[]], [(0, (1, 1), 0)]]


class Model:
    """A slow board: everything is reckoned from the calls that are not taken back."""

    def __init__(self, kind, book):
        self.kind = kind
        self.book = book
        self.calls = []

    def guests_behind(self, count):
        guests = {}
        number = 0
        for call in self.calls[:count]:
            if call[0] == "add":
                guests[number] = call[1]
                number = number + 1
            elif call[0] == "remove":
                del guests[call[1]]
            else:
                guests[call[1]] = call[2]
        return guests

    def guests(self):
        return self.guests_behind(len(self.calls))

    def meets(self, guests):
        return slow_meet(rule_rows(self.book, [rule for party in guests.values() for rule in party]))

    def closings(self):
        opens = [self.meets(self.guests_behind(count)) for count in range(len(self.calls) + 1)]
        return len([1 for at in range(len(self.calls)) if opens[at] and not opens[at + 1]])

    def first_clash(self, guests):
        """The least list of numbers of parties that clash, but would not without any one of them."""
        bad = [set(some) for size in range(len(guests) + 1) for some in combinations(sorted(guests), size)
               if not self.meets({number: guests[number] for number in some})]
        return min([sorted(some) for some in bad if not any([other < some for other in bad])])

    def error_of(self, call):
        """The error that a call raises; None if it raises none."""
        guests = self.guests()
        if call[0] == "undo":
            return None if self.calls else NothingToUndo("")
        if call[0] != "add" and call[1] not in guests:
            return InvalidNumber("")
        if call[0] == "add" and len(guests) == 8:
            return TooLarge(8)
        if call[0] != "remove" and self.kind in GUARDED:
            after = {**guests, (self.next_number() if call[0] == "add" else call[1]): call[-1]}
            return None if self.meets(after) else Clash(self.first_clash(after))
        return None

    def next_number(self):
        return len([call for call in self.calls if call[0] == "add"])

    def run(self, call):
        """The answer of a call that raises no error."""
        if call[0] == "undo":
            self.calls.pop()
            return None
        self.calls.append(call)
        return self.next_number() - 1 if call[0] == "add" else None


def run(board, call):
    """Runs a call on a board."""
    if call[0] == "undo":
        return board.undo()
    if call[0] == "add":
        return board.add(call[1])
    return board.remove(call[1]) if call[0] == "remove" else board.exchange(call[1], call[2])


def seen(board):
    """All that a board tells."""
    found = [board.guests, board.is_open, board.calls, len(board), board.described(), type(board)]
    return found + ([board.closings] if type(board) in COUNTING else [])


class Calls(unittest.TestCase):
    def test_boards_call_by_call(self):
        source = random.Random(120)
        books = [LINE, THREE, BOXES2, TILTED, LEAN, ONE_WAY, random_book(source, 3, 6, 2), random_book(source, 4, 6, 1)]
        told = []
        for kind in CLASSES:
            for book in books:
                told = told + self.check_board(source, kind, book)
        for name in ("InvalidNumber", "TooLarge", "NothingToUndo", "Clash", "add", "remove", "exchange", "undo"):
            self.assertGreater(told.count(name), 8, name)

    def check_board(self, source, kind, book):
        board, model = kind(book), Model(kind, book)
        told = []
        for _ in range(40):
            call = self.random_call(source, book, len(model.guests()))
            error = model.error_of(call)
            if error is None:
                told.append(call[0])
                self.assertEqual(run(board, call), model.run(call), call)
            else:
                told.append(type(error).__name__)
                self.check_error(board, call, error)
            self.check_state(board, model)
        for _ in list(model.calls):
            self.assertIsNone(board.undo())
            model.calls.pop()
            self.check_state(board, model)
        self.assertEqual(board, kind(book))
        return told

    def random_call(self, source, book, many):
        number = source.randint(0, many + 3)
        party = random_rules(source, book, source.choice([0, 1, 1, 2, 3]))
        # Parties without rules are good for full boards.
        party = party if source.randint(0, 2) else []
        calls = [("add", party)] * 6 + [("remove", number), ("exchange", number, party), ("exchange", number, party), ("undo",)]
        return source.choice(calls)

    def check_error(self, board, call, error):
        before = copy.deepcopy(seen(board))
        with self.assertRaises(type(error)) as caught:
            run(board, call)
        self.assertEqual(vars(caught.exception), vars(error))
        self.assertEqual(seen(board), before)

    def check_state(self, board, model):
        guests = model.guests()
        self.assertEqual(board.guests, sorted(guests.items()))
        self.assertIs(board.is_open, model.meets(guests))
        self.assertEqual(board.calls, model.calls)
        self.assertEqual(len(board), len(guests))
        closings = model.closings() if type(board) in COUNTING else None
        self.assertEqual(board.described(), (len(guests), model.meets(guests), closings))
        if closings is not None:
            self.assertEqual(board.closings, closings)


class Told(unittest.TestCase):
    def test_a_new_board(self):
        for kind in CLASSES:
            board = kind(THREE)
            self.assertEqual([board.guests, board.is_open, board.calls, len(board)], [[], True, [], 0])
            self.assertEqual(board.described(), (0, True, 0 if kind in COUNTING else None))
            self.assertEqual(hasattr(board, "closings"), kind in COUNTING)

    def test_classes(self):
        self.assertEqual([kind.__bases__ for kind in CLASSES],
                         [(object,), (Board,), (Board,), (GuardedBoard, CountingBoard)])

    def test_by_position_and_by_name(self):
        for kind in CLASSES:
            one, other = kind(LINE), kind(book=LINE)
            self.assertEqual([one.add(LOW), one.add([]), one.exchange(1, LOW), one.remove(0)], [0, 1, None, None])
            self.assertEqual([other.add(party=LOW), other.add(party=[]), other.exchange(party=LOW, number=1),
                              other.remove(number=0)], [0, 1, None, None])
            self.assertEqual(one, other)
            self.assertIsNone(one.undo())
            self.assertNotEqual(one, other)

    def test_numbers(self):
        for kind in CLASSES:
            board = kind(LINE)
            self.assertEqual([board.add([]) for _ in range(3)], [0, 1, 2])
            board.remove(1)
            self.assertEqual(board.add([]), 3)
            board.undo()
            self.assertEqual(board.add(LOW), 3)
            board.remove(3)
            self.assertEqual(board.add([]), 4)
            for _ in range(3):
                board.undo()
            # Of the calls the adding of 0, 1, 2 and the removing of 1 are left.
            self.assertEqual([board.add(LOW), board.guests], [3, [(0, []), (2, []), (3, LOW)]])

    def test_eight_parties(self):
        for kind in CLASSES:
            board = kind(LINE)
            for number in range(8):
                self.assertEqual(board.add(LOW), number)
            with self.assertRaises(TooLarge) as caught:
                board.add(LOW)
            self.assertEqual(caught.exception.limit, 8)
            board.exchange(7, [])
            board.remove(3)
            self.assertEqual([board.add([]), len(board)], [8, 8])
            with self.assertRaises(TooLarge):
                board.add([])

    def test_calls(self):
        for kind in CLASSES:
            board = kind(LINE)
            board.add(LOW)
            board.add([])
            board.exchange(0, [])
            board.remove(1)
            told = [("add", LOW), ("add", []), ("exchange", 0, []), ("remove", 1)]
            self.assertEqual([board.calls, board.guests], [told, [(0, [])]])
            self.assertEqual([type(item) for item in board.calls], [tuple] * 4)
            self.assertEqual([type(board.calls[0][1]), type(board.guests[0]), type(board.guests[0][1])], [list, tuple, list])
            board.undo()
            self.assertEqual([board.calls, board.guests], [told[:3], [(0, []), (1, [])]])

    def test_undo_is_no_call_to_undo(self):
        for kind in CLASSES:
            board = kind(LINE)
            board.add(LOW)
            board.undo()
            for _ in range(2):
                with self.assertRaises(NothingToUndo):
                    board.undo()
            self.assertEqual(board.calls, [])

    def test_a_hundred_calls(self):
        for kind in CLASSES:
            board = kind(LINE)
            board.add([])
            for at in range(98):
                board.exchange(0, [(0, (at, 1))] if at % 2 else [])
            board.remove(0)
            self.assertEqual([len(board.calls), len(board), board.is_open], [100, 0, True])
            for _ in range(100):
                board.undo()
            self.assertEqual(board, kind(LINE))

    def test_great_books(self):
        source = random.Random(121)
        for kind in CLASSES:
            board = kind(CURVE)
            for _ in range(8):
                board.add([(number, (source.randint(3, 30), 1)) for number in range(12)])
            parties = [party for _, party in board.guests]
            self.assertIs(board.is_open, True)
            self.assertIs(all_meet(CURVE, parties), True)


class Closings(unittest.TestCase):
    def test_told_calls(self):
        board = CountingBoard(LINE)
        told = []
        for call in [("add", LOW), ("add", HIGH), ("add", HIGH), ("remove", 1), ("remove", 2), ("add", HIGH), ("undo",),
                     ("exchange", 0, LOW + HIGH), ("exchange", 0, HIGH), ("add", LOW), ("undo",), ("undo",), ("undo",)]:
            run(board, call)
            told.append(board.closings)
        self.assertEqual(told, [0, 1, 1, 1, 1, 2, 1, 2, 2, 3, 2, 2, 1])

    def test_a_party_that_clashes_by_itself(self):
        for kind in (Board, CountingBoard):
            board = kind(LINE)
            self.assertEqual([board.add(LOW + HIGH), board.is_open], [0, False])
            self.assertEqual(board.described(), (1, False, 1 if kind is CountingBoard else None))

    def test_a_guarded_board_counts_nothing(self):
        board = GuardedCountingBoard(LINE)
        board.add(LOW)
        with self.assertRaises(Clash):
            board.add(HIGH)
        self.assertEqual([board.closings, board.described()], [0, (1, True, 0)])


class Guards(unittest.TestCase):
    def parties_of(self, call, *given):
        with self.assertRaises(Clash) as caught:
            call(*given)
        self.assertIs(type(caught.exception.parties), list)
        return caught.exception.parties

    def test_told_clashes(self):
        for kind in GUARDED:
            board = kind(THREE)
            for party in GUESTS[:2] + GUESTS[3:]:
                board.add(party)
            self.assertEqual(self.parties_of(board.add, GUESTS[2]), [0, 1, 3])
            self.assertEqual(self.parties_of(board.exchange, 2, GUESTS[2]), [0, 1, 2])
            self.assertEqual(self.parties_of(board.exchange, 1, GUESTS[1] + GUESTS[2]), [0, 1])
            self.assertEqual(self.parties_of(board.add, sum(GUESTS[:3], [])), [3])
            self.assertEqual(self.parties_of(board.exchange, 0, sum(GUESTS[:3], [])), [0])
            self.assertEqual(board.guests, [(0, GUESTS[0]), (1, GUESTS[1]), (2, GUESTS[3])])
            self.assertIsNone(board.exchange(0, []))
            self.assertEqual(board.add(GUESTS[2]), 3)

    def test_the_least_list(self):
        for kind in GUARDED:
            board = kind(LINE)
            for at in range(4):
                board.add([(0, (-at, 1))])
            self.assertEqual(self.parties_of(board.add, [(1, (1, 1))]), [2, 4])
            self.assertEqual(self.parties_of(board.add, [(1, (-1, 1))]), [0, 4])
            self.assertEqual(self.parties_of(board.exchange, 1, [(1, (2, 1))]), [1, 3])
            board.remove(2)
            self.assertEqual(self.parties_of(board.add, [(1, (1, 1))]), [3, 4])

    def test_removing_and_undoing_are_free(self):
        for kind in GUARDED:
            board = kind(LINE)
            board.add(LOW)
            board.remove(0)
            board.add(HIGH)
            self.assertIs(board.is_open, True)
            board.undo()
            board.undo()
            self.assertEqual([board.guests, board.is_open], [[(0, LOW)], True])

    def test_other_errors_come_first(self):
        for kind in GUARDED:
            board = kind(LINE)
            for _ in range(8):
                board.add(LOW)
            with self.assertRaises(TooLarge):
                board.add(HIGH)
            with self.assertRaises(InvalidNumber):
                board.exchange(8, HIGH)
            with self.assertRaises(InvalidParty):
                board.exchange(0, HIGH + [None])
            self.assertEqual(self.parties_of(board.exchange, 0, HIGH), [0, 1])

    def test_forcing_worlds(self):
        """The facts of promises 6 and 8: the last party of a forcing world clashes with all others."""
        for kind in GUARDED:
            for book in BOOKS + [CURVE, DIFFERENCES4]:
                if clash_size(book) > 0:
                    board = kind(book)
                    rules = forcing(book)[0]
                    for rule in rules[:-1]:
                        board.add([rule])
                    self.assertEqual(self.parties_of(board.add, rules[-1:]), list(range(clash_size(book))))

    def test_the_tight_world_of_all_parties(self):
        """The fact of promise 10: tight bounds take nothing away."""
        board = GuardedBoard(TILTED)
        board.add([(0, (-1, 1)), (1, (0, 1)), (3, (5, 1))])
        whole = tight(TILTED, [(-1, 1), (0, 1), None, (5, 1)])
        self.assertEqual(board.add([(number, bound) for number, bound in enumerate(whole) if bound is not None]), 1)


class Facts(unittest.TestCase):
    def test_boards_of_ranges(self):
        """The facts of promise 13: as many ranges as the depth meet, on a board of one unknown."""
        for number, depth in [(3, 2), (5, 3), (8, 8), (8, 1), (7, 4)]:
            ranges = crowded(number, depth)
            board = CountingBoard(LINE)
            for low, high in ranges:
                board.add([(0, (-low, 1)), (1, (high, 1))])
            self.assertIs(board.is_open, depth_of(ranges) == number)
            self.assertEqual(board.closings, int(depth < number))
            for number_out in range(number - depth):
                self.assertIs(board.is_open, False)
                board.remove(number_out)
            self.assertIs(board.is_open, True)

    def test_crowds_of_a_board_are_open(self):
        source = random.Random(122)
        for book in (THREE, TILTED, LEAN):
            board = Board(book)
            for _ in range(6):
                board.add(random_rules(source, book, 2))
            parties = [party for _, party in board.guests]
            self.assertIs(board.is_open, party_clashes(book, parties) == [])
            crowd = crowds(book, parties)[0]
            for number in range(6):
                if number not in crowd:
                    board.remove(number)
            self.assertIs(board.is_open, True)


class Equality(unittest.TestCase):
    def test_equal_calls(self):
        for kind in CLASSES:
            one, other = kind(LINE), kind(LINE)
            self.assertIs(one == other, True)
            one.add(LOW)
            self.assertIs(one == other, False)
            self.assertIs(one != other, True)
            other.add(list(LOW))
            self.assertIs(one == other, True)
            self.assertIs(one != other, False)

    def test_the_same_parties_by_other_calls(self):
        for kind in CLASSES:
            one, other = kind(LINE), kind(LINE)
            one.add(LOW)
            other.add([])
            other.exchange(0, LOW)
            self.assertEqual(one.guests, other.guests)
            self.assertIs(one == other, False)
            other.undo()
            self.assertIs(one == other, False)
            other.undo()
            other.add(LOW)
            self.assertIs(one == other, True)

    def test_other_books(self):
        for kind in CLASSES:
            self.assertIs(kind(LINE) == kind(ONE_WAY), False)
            self.assertIs(kind(BOXES2) == kind(TILTED), False)
            self.assertIs(kind(BOXES2) == kind(list(BOXES2)), True)

    def test_other_classes_and_values(self):
        for kind in CLASSES:
            for other in CLASSES:
                self.assertIs(kind(THREE) == other(THREE), kind is other)
                self.assertIs(kind(THREE) != other(THREE), kind is not other)
            for value in [value for value in ODD_VALUES if not isinstance(value, Board)] + [0, THREE, [], Board, kind]:
                self.assertIs(kind(THREE) == value, False)
                self.assertIs(value == kind(THREE), False)
                self.assertIs(kind(THREE) != value, True)

    def test_equal_boards_stay_apart(self):
        for kind in CLASSES:
            one, other = kind(LINE), kind(LINE)
            one.add(LOW)
            other.add(LOW)
            one.exchange(0, [])
            self.assertEqual([one.guests, other.guests], [[(0, [])], [(0, LOW)]])
            other.undo()
            self.assertEqual([len(one), len(other)], [1, 0])


class Twins(unittest.TestCase):
    def test_twins(self):
        for kind in CLASSES:
            board = kind(LINE)
            board.add(LOW)
            board.add([])
            board.exchange(1, LOW)
            twin = board.twin()
            self.assertIs(type(twin), kind)
            self.assertIsNot(twin, board)
            self.assertEqual(twin, board)
            self.assertEqual(seen(twin), seen(board))

    def test_twins_are_independent(self):
        for kind in CLASSES:
            board = kind(LINE)
            board.add(LOW)
            board.add([])
            kept = copy.deepcopy(seen(board))
            twin = board.twin()
            twin.add(LOW)
            twin.remove(0)
            self.assertEqual(seen(board), kept)
            for _ in range(4):
                twin.undo()
            self.assertEqual([twin.calls, seen(board)], [[], kept])
            other = board.twin()
            board.undo()
            board.remove(0)
            self.assertEqual(seen(other), kept)
            self.assertEqual(other.add([]), 2)

    def test_twins_of_twins(self):
        for kind in CLASSES:
            twin = kind(LINE).twin().twin()
            self.assertEqual([twin == kind(LINE), twin.add([]), type(twin)], [True, 0, kind])

    def test_a_twin_is_guarded_and_counts(self):
        for kind in CLASSES:
            board = kind(LINE)
            board.add(LOW)
            twin = board.twin()
            if kind in GUARDED:
                with self.assertRaises(Clash):
                    twin.add(HIGH)
            else:
                twin.add(HIGH)
                self.assertEqual(twin.described(), (2, False, 1 if kind in COUNTING else None))


class References(unittest.TestCase):
    def test_arguments_that_are_changed_later(self):
        for kind in CLASSES:
            book, party, other = list(LINE), list(LOW), list(LOW)
            board = kind(book)
            board.add(party)
            board.add([])
            board.exchange(1, other)
            kept = copy.deepcopy(seen(board))
            book.append((5,))
            party.clear()
            other.append((0, (-9, 1)))
            self.assertEqual(seen(board), kept)
            board.remove(1)
            board.undo()
            self.assertEqual(seen(board), kept)
            self.assertEqual(board.add(HIGH) if kind not in GUARDED else 2, 2)

    def test_arguments_are_as_before(self):
        for kind in CLASSES:
            book, party = list(THREE), [(0, (-1, 1)), (0, (-1, 1))]
            board = kind(book)
            for call in (lambda: board.add(party), lambda: board.exchange(0, party), lambda: board.exchange(9, party),
                         lambda: board.add(party + [None]), lambda: board.add([(1, (0, 1)), (2, (0, 1))])):
                try:
                    call()
                except RuleError:
                    pass
            self.assertEqual([book, party], [THREE, [(0, (-1, 1)), (0, (-1, 1))]])

    def test_changed_answers_change_nothing(self):
        for kind in CLASSES:
            board = kind(LINE)
            board.add(LOW)
            board.add([])
            board.exchange(1, LOW)
            kept = copy.deepcopy(seen(board))
            for _ in range(2):
                board.guests[0][1].append((1, (-9, 1)))
                board.guests.clear()
                board.calls[0][1].clear()
                board.calls[2][2].append(None)
                board.calls.clear()
                self.assertEqual(seen(board), kept)
            board.undo()
            self.assertEqual(board.guests, [(0, LOW), (1, [])])

    def test_lists_of_a_clash_are_new(self):
        board = GuardedBoard(LINE)
        board.add(LOW)
        for _ in range(2):
            with self.assertRaises(Clash) as caught:
                board.add(HIGH)
            self.assertEqual(caught.exception.parties, [0, 1])
            caught.exception.parties.clear()

    def test_what_was_returned_can_be_passed_back(self):
        for kind in CLASSES:
            board, other = kind(THREE), kind(THREE)
            for party in GUESTS[:2]:
                board.add(party)
            for call in board.calls:
                run(other, call)
            self.assertEqual(board, other)
            other.exchange(board.guests[1][0], board.guests[0][1])
            self.assertEqual(other.guests, [(0, GUESTS[0]), (1, GUESTS[0])])


class Wrong(unittest.TestCase):
    def check(self, board, error, call, *given):
        before = copy.deepcopy(seen(board))
        with self.assertRaises(RuleError, msg=given) as caught:
            call(*given)
        self.assertIs(type(caught.exception), error, given)
        self.assertEqual(seen(board), before)

    def test_wrong_books(self):
        for kind in CLASSES:
            for book in ODD_VALUES + [[], THREE[::-1], tuple(THREE)]:
                with self.assertRaises(InvalidBook):
                    kind(book)

    def test_wrong_parties(self):
        for kind in CLASSES:
            board = kind(LINE)
            board.add([])
            for party in WRONG_PARTIES + ODD_VALUES:
                self.check(board, InvalidParty, board.add, party)
                self.check(board, InvalidParty, board.exchange, 0, party)
            self.assertEqual(board.add(LOW * 12), 1)

    def test_wrong_numbers(self):
        for kind in CLASSES:
            board = kind(LINE)
            board.add([])
            board.add([])
            board.remove(0)
            for number in [0, 2, -1, HUGE, "1", (1,), [1], True, None] + ODD_VALUES:
                self.check(board, InvalidNumber, board.remove, number)
                self.check(board, InvalidNumber, board.exchange, number, [])
            self.assertIsNone(board.remove(1))

    def test_true_is_no_number(self):
        for kind in CLASSES:
            board = kind(LINE)
            board.add([])
            board.add([])
            for number in (True, False):
                self.check(board, InvalidNumber, board.remove, number)
                self.check(board, InvalidNumber, board.exchange, number, LOW)

    def test_which_error_comes_first(self):
        for kind in CLASSES:
            board = kind(LINE)
            self.check(board, InvalidNumber, board.exchange, 0, None)
            self.check(board, NothingToUndo, board.undo)
            for _ in range(8):
                board.add([])
            self.check(board, InvalidParty, board.add, None)
            self.check(board, TooLarge, board.add, LOW)
            self.check(board, InvalidParty, board.exchange, 0, [None])


if __name__ == "__main__":
    unittest.main()
