"""Promise 34: a board that is told what to do by commands."""

import unittest

from clashsize.console import Console
from clashsize.errors import InvalidCommand, InvalidNumber, InvalidParty, NothingToUndo, RuleError, TooLarge, Undecided
from clashsize.knots import clash_size, knots
from clashsize.parts import free_kinds
from clashsize.texts import format_book, format_rules

from samples import BOOKS, CURVE, DIFFERENCES4, LEAN, ODD_VALUES, THREE, random_books

TEXT = "-1,-1 0,1 1,0"
ABOUT = ["open", "guests", "size", "whole", "knots", "greatest", "free"]


def told(desk):
    """The answers to all questions."""
    answers = []
    for command in ABOUT:
        try:
            answers.append(desk.execute(command))
        except Undecided:
            answers.append("undecided")
    return answers


class Commands(unittest.TestCase):
    def check(self, commands, answers):
        desk = Console()
        self.assertEqual([desk.execute(command) for command in commands], answers)
        return desk

    def test_a_new_console(self):
        self.check(ABOUT, ["yes", "0", "2", "2", "1", "0*1 1*1", "none"])

    def test_parties_come_and_go(self):
        self.check(["add 0:-1", "add 1:0", "open", "guests", "remove 0", "open", "guests", "undo", "open", "add", "guests",
                    "undo", "undo", "undo", "guests", "add"],
                   ["0", "1", "no", "2", "ok", "yes", "1", "ok", "no", "2", "3", "ok", "ok", "ok", "0", "0"])

    def test_books(self):
        self.check([f"book {TEXT}"] + ABOUT, ["ok", "yes", "0", "3", "3", "1", "0*1 1*1 2*1", "none"])
        self.check(["book -1,0 0,1 1,0"] + ABOUT, ["ok", "yes", "0", "2", "2", "1", "0*1 2*1", "1"])
        self.check(["book -1,-1 -1,1 1,-1 1,1"] + ABOUT, ["ok", "yes", "0", "2", "4", "2", "0*1 3*1", "none"])
        self.check(["book 0,1 1,0"] + ABOUT, ["ok", "yes", "0", "0", "0", "0", "none", "0 1"])
        self.check(["book -3,-5 0,1 2,1"] + ABOUT[:4], ["ok", "yes", "0", "3", "3"])
        self.check(["book -3,-5 0,1 2,1", "greatest", "book 1", "free"], ["ok", "0*2 1*7 2*3", "ok", "0"])

    def test_each_book(self):
        for book in BOOKS + random_books() + [CURVE, DIFFERENCES4, LEAN]:
            desk = self.check([f"book {format_book(book)}", "size", "knots"],
                              ["ok", str(clash_size(book)), str(len(knots(book)))])
            free = [str(number) for number in free_kinds(book)]
            self.assertEqual(desk.execute("free"), " ".join(free) if free else "none")

    def test_a_new_book_is_a_new_board(self):
        desk = self.check(["add", "add", "remove 0", f"book {TEXT}", "guests", "add 2:1/2", "book -1 1", "guests", "add 1:1"],
                          ["0", "1", "ok", "ok", "0", "0", "ok", "0", "0"])
        self.assertEqual(desk.execute("undo"), "ok")
        with self.assertRaises(NothingToUndo):
            desk.execute("undo")

    def test_rules_of_the_book(self):
        rules = [(0, (-1, 2)), (1, (0, 1)), (2, (1, 3)), (2, (1, 3))]
        desk = self.check([f"book {TEXT}", f"add {format_rules(THREE, rules)}", "open", "add 0:-1/3", "open"],
                          ["ok", "0", "no", "1", "no"])
        self.assertEqual([desk.execute("remove 0"), desk.execute("open")], ["ok", "yes"])

    def test_answers_are_strings(self):
        desk = Console()
        for command in ABOUT + ["add", "add 0:1", "remove 0", "undo", f"book {TEXT}"]:
            self.assertIs(type(desk.execute(command=command)), str)

    def test_two_consoles_side_by_side(self):
        one, other = Console(), Console()
        one.execute(f"book {TEXT}")
        one.execute("add 0:-1")
        self.assertEqual([other.execute("guests"), other.execute("size"), other.execute("add 1:2")], ["0", "2", "0"])
        one.execute("undo")
        self.assertEqual([one.execute("guests"), other.execute("guests")], ["0", "1"])


class Wrong(unittest.TestCase):
    def check(self, desk, error, command):
        before = told(desk)
        with self.assertRaises(RuleError, msg=command) as caught:
            desk.execute(command)
        self.assertIs(type(caught.exception), error, command)
        self.assertEqual(told(desk), before)
        return caught.exception

    def begun(self):
        desk = Console()
        for command in (f"book {TEXT}", "add 0:-1", "add 1:0"):
            desk.execute(command)
        return desk

    def test_no_commands(self):
        wrong = ["", " ", "x", "Open", "OPEN", "open ", " open", "open 1", "open open", "guests 0", "size 1", "whole x",
                 "knots 0", "greatest 1", "free 0", "undo ", "undo 1", "undo undo", "  ", "openx", "none", "add\n", "open\n",
                 "is_open", "described", "twin", "__init__"]
        for command in wrong:
            self.check(self.begun(), InvalidCommand, command)

    def test_wrong_books(self):
        for text in ["", " ", "1,0 -1,0", "2", "1 ", " 1", "-1  1", "x", "1,0 1", "0", " ".join([f"1,{at}" for at in range(13)]),
                     "1,2,3,4,5,6", "01", "-0,1", "0:1", TEXT + " "]:
            self.check(self.begun(), InvalidCommand, f"book {text}")
        self.check(self.begun(), InvalidCommand, "book")

    def test_wrong_rules(self):
        for text in ["", " ", "3:1", "0:1 ", " 0:1", "0:1  1:1", "0:2/4", "0:1/1", "x", "0", "-1:1", "0:1 3:1", "0:-0", "00:1",
                     " ".join(["0:1"] * 41), "0:" + "1" * 31]:
            self.check(self.begun(), InvalidCommand, f"add {text}")
        self.assertEqual(self.begun().execute("add " + " ".join(["0:1"] * 12)), "2")
        # RULES of the board's book: another book has a kind with the number 3.
        desk = Console()
        self.check(desk, InvalidCommand, "add 2:1")
        desk.execute(f"book {TEXT}")
        self.assertEqual(desk.execute("add 2:1"), "0")

    def test_wrong_numbers(self):
        for text in ["", " ", "-1", "01", "-0", "x", "0 1", " 0", "0 ", "1/2", "0:1", "None", "1" * 31, "+0", "00"]:
            self.check(self.begun(), InvalidCommand, f"remove {text}")
        self.check(self.begun(), InvalidCommand, "remove")

    def test_errors_of_the_methods(self):
        desk = self.begun()
        for number in ("2", "9" * 30):
            self.check(desk, InvalidNumber, f"remove {number}")
        desk.execute("remove 0")
        self.check(desk, InvalidNumber, "remove 0")
        for count in (13, 40):
            self.check(desk, InvalidParty, "add " + " ".join(["0:1"] * count))
        for _ in range(7):
            desk.execute("add")
        self.assertEqual(self.check(desk, TooLarge, "add").limit, 8)
        self.check(desk, TooLarge, "add 0:1")
        self.check(desk, InvalidParty, "add " + " ".join(["0:1"] * 13))
        self.check(Console(), NothingToUndo, "undo")

    def test_undecided_books(self):
        desk = Console()
        desk.execute("book 1,2,3")
        self.check(desk, Undecided, "whole")
        desk.execute("book 0,0,1")
        self.assertEqual(desk.execute("whole"), "0")

    def test_any_value(self):
        desk = self.begun()
        for value in ODD_VALUES + [b"open", ["open"], ("open",), 0]:
            self.check(desk, InvalidCommand, value)


if __name__ == "__main__":
    unittest.main()
