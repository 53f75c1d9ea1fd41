"""Texts of books and rules."""

from clashsize.errors import InvalidText
from clashsize.kinds import check_book, check_rules, is_book, is_rules

DIGITS = "0123456789"
MOST_DIGITS = 30


def format_book(book):
    """The text of a book."""
    check_book(book)
    return " ".join([",".join([str(item) for item in kind]) for kind in book])


def format_rules(book, rules):
    """The text of rules."""
    check_book(book)
    check_rules(book, rules)
    return " ".join([f"{number}:{_fraction_text(bound)}" for number, bound in rules])


def _fraction_text(fraction):
    """The text of a fraction."""
    top, bottom = fraction
    return _number_text(top) if bottom == 1 else f"{_number_text(top)}/{_number_text(bottom)}"


def _number_text(number):
    """The text of a number of any size: str itself takes some thousand digits at most."""
    rest = abs(number)
    text = ""
    while rest >= 10 ** 60:
        text = str(rest % 10 ** 60).zfill(60) + text
        rest = rest // 10 ** 60
    return ("-" if number < 0 else "") + str(rest) + text


def parse_book(text):
    """The book that has this text."""
    book = []
    for place, word in enumerate(_words(text)):
        kind = tuple([read_number(part) for part in word.split(",")])
        if not is_book(book + [kind]):
            raise InvalidText(place)
        book.append(kind)
    return book


def parse_rules(book, text):
    """The rules of the book that have this text."""
    check_book(book)
    rules = []
    for place, word in enumerate([] if text == "" else _words(text)):
        number, colon, bound = word.partition(":")
        rule = (read_number(number), _read_fraction(bound))
        if not is_rules(book, rules + [rule]):
            raise InvalidText(place)
        rules.append(rule)
    return rules


def _words(text):
    """The parts between the spaces; InvalidText if it is not a string."""
    if type(text) != str:
        raise InvalidText(None)
    return text.split(" ")


def read_number(text):
    """The integer that has this text; None if none has it."""
    digits = text[1:] if text[:1] == "-" else text
    if not 1 <= len(digits) <= MOST_DIGITS or not all([sign in DIGITS for sign in digits]):
        return None
    # Zero has neither a sign nor a second digit, and nothing else begins with it.
    return None if digits[0] == "0" and text != "0" else int(text)


def _read_fraction(text):
    """The tuple of the numbers of a fraction, in lowest terms or not; None if it is not written as one."""
    top, stroke, bottom = text.partition("/")
    if stroke == "":
        return (read_number(top), 1)
    below = read_number(bottom)
    # A whole number is written without a denominator.
    return None if below == 1 else (read_number(top), below)
