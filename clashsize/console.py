"""A board that is told what to do by commands."""

from clashsize.board import Board
from clashsize.errors import InvalidCommand, InvalidText
from clashsize.families import boxes
from clashsize.knots import clash_size, greatest_knot, knots
from clashsize.parts import free_kinds
from clashsize.texts import parse_book, parse_rules, read_number
from clashsize.wholes import whole_size


def _truth(answer):
    """The word for True or False."""
    return "yes" if answer else "no"


def _listed(words):
    """Words with spaces between, none for no words."""
    return " ".join(words) if words else "none"


def _greatest(book):
    """The kinds and weights of the greatest knot of a book."""
    knot = greatest_knot(book)
    return _listed([] if knot is None else [f"{number}*{weight}" for number, weight in knot])


def _free(book):
    """The numbers of the free kinds of a book."""
    return _listed([str(number) for number in free_kinds(book)])


def _size(book):
    """The clash size of a book."""
    return str(clash_size(book))


def _whole(book):
    """The whole size of a book."""
    return str(whole_size(book))


def _knots(book):
    """The number of knots of a book."""
    return str(len(knots(book)))


ABOUT_BOOKS = {"size": _size, "whole": _whole, "knots": _knots, "greatest": _greatest, "free": _free}


class Console:
    """A board and its book."""

    def __init__(self):
        self._book = boxes(1)
        self._board = Board(self._book)

    def execute(self, command):
        """Runs a command and returns its answer."""
        if type(command) != str:
            raise InvalidCommand("not a string")
        word, blank, rest = command.partition(" ")
        if blank == "":
            return self._run(word)
        if word == "book":
            return self._begin(rest)
        if word == "add":
            return self._add(rest)
        if word == "remove":
            return self._remove(rest)
        raise InvalidCommand("no command has this form")

    def _run(self, word):
        """Runs a command of one word."""
        if word in ABOUT_BOOKS:
            answer = ABOUT_BOOKS[word]
            return answer(self._book)
        if word == "add":
            return str(self._board.add([]))
        if word == "undo":
            self._board.undo()
            return "ok"
        if word == "open":
            return _truth(self._board.is_open)
        if word == "guests":
            return str(len(self._board))
        raise InvalidCommand("no command has this form")

    def _begin(self, text):
        """Takes a new board for the book that has this text."""
        try:
            book = parse_book(text)
        except InvalidText:
            raise InvalidCommand("not the text of a book") from None
        self._book = book
        self._board = Board(book)
        return "ok"

    def _add(self, text):
        """Adds the party of the rules that have this text."""
        if text == "":
            raise InvalidCommand("no rules behind a space")
        try:
            rules = parse_rules(self._book, text)
        except InvalidText:
            raise InvalidCommand("not the text of rules of the book") from None
        return str(self._board.add(rules))

    def _remove(self, text):
        """Takes out the party with the number that has this text."""
        number = read_number(text)
        if number is None or number < 0:
            raise InvalidCommand("not a number from 0 on")
        self._board.remove(number)
        return "ok"
