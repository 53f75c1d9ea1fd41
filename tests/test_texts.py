"""Promise 33: texts of books and rules, there and back."""

import random
import unittest
from math import gcd

from clashsize.errors import InvalidBook, InvalidRules, InvalidText
from clashsize.families import ring_total
from clashsize.texts import format_book, format_rules, parse_book, parse_rules

from samples import BOOKS, BOXES2, CURVE, DIFFERENCES4, HUGE, LEAN, LINE, ODD_VALUES, THREE, TILTED, TWELVE, random_books
from samples import random_fraction

NINES = "9" * 30
LONG = "1" + "0" * 30


class Texts(unittest.TestCase):
    def place_of(self, call, *given):
        with self.assertRaises(InvalidText, msg=given) as caught:
            call(*given)
        return caught.exception.place


class Books(Texts):
    def test_told_books(self):
        told = [(THREE, "-1,-1 0,1 1,0"), (LINE, "-1 1"), ([(1,)], "1"), ([(-20, 19)], "-20,19"),
                ([(0, 0, 0, 0, 1), (0, 0, 0, 1, -3)], "0,0,0,0,1 0,0,0,1,-3")]
        for book, text in told:
            self.assertEqual(format_book(book), text)
            self.assertEqual(parse_book(text), book)

    def test_there_and_back(self):
        for book in BOOKS + random_books() + [CURVE, DIFFERENCES4, LEAN, TWELVE]:
            found = parse_book(format_book(book))
            self.assertEqual((found, type(found), {type(kind) for kind in found}), (book, list, {tuple}))

    def test_the_first_wrong_word(self):
        told = [("", 0), (" ", 0), ("-1,0 ", 1), (" -1,0", 0), ("-1,0  1,0", 1), ("1,0 -1,0", 1), ("1,0 1,0", 1),
                ("-1,0 0,1 0,1 x", 2), ("0,1 1", 1), ("1 0,1", 1), ("1 0", 1), ("2", 0), ("0", 0), ("2,2", 0), ("0,0", 0),
                ("21,1", 0), ("1,-21", 0), ("0,1 21,1", 1), ("1,2,3,4,5", None), ("1,2,3,4,5,6", 0), ("0,0,0,0,1 1,0,0,0", 1),
                ("-1 1 -1", 2), ("-1 1 1", 2), ("-1,0 0,1\n 1,0", 1), ("-1,0\t1,0", 0), ("1,0,", 0), (",1,0", 0),
                ("1,,0", 0), ("1;0", 0), ("(1,0)", 0), ("1,0.", 0)]
        for text, place in told:
            if place is None:
                self.assertEqual(len(parse_book(text)), 1)
            else:
                self.assertEqual(self.place_of(parse_book, text), place, text)

    def test_numbers(self):
        for word in ["-0", "00", "01", "-01", "+1", "--1", "-", "", "1-", "0x1", "1e0", "1_0", "\u0661", "\u00b2", "1.0",
                     "one", "True", "None", NINES, LONG, "0" * 30 + "1"]:
            self.assertEqual(self.place_of(parse_book, f"0,1 {word},1"), 1, word)
            self.assertEqual(self.place_of(parse_book, f"{word},1"), 0, word)
        self.assertEqual(parse_book("0,1"), [(0, 1)])

    def test_the_thirteenth_kind(self):
        text = format_book(TWELVE)
        self.assertEqual(parse_book(text), TWELVE)
        for word in ["1,12", "1,0", "", "x", "1"]:
            self.assertEqual(self.place_of(parse_book, f"{text} {word}"), 12)
        self.assertEqual(self.place_of(parse_book, "x " + text), 0)

    def test_no_strings(self):
        for text in ODD_VALUES + [b"1,0", 1, [(1, 0)], ["1,0"]]:
            if type(text) is not str:
                self.assertIsNone(self.place_of(parse_book, text))
                self.assertIsNone(self.place_of(parse_rules, THREE, text))

    def test_wrong_books(self):
        for book in ODD_VALUES + [[], THREE[::-1], "-1 1"]:
            for call in (lambda: format_book(book), lambda: format_rules(book, None), lambda: parse_rules(book, None)):
                with self.assertRaises(InvalidBook):
                    call()


class Rules(Texts):
    def test_told_rules(self):
        told = [([], ""), ([(0, (-1, 2)), (2, (3, 1))], "0:-1/2 2:3"), ([(1, (-7, 3))], "1:-7/3"), ([(1, (0, 1))], "1:0"),
                ([(2, (1, 1)), (0, (-1, 1)), (2, (1, 1))], "2:1 0:-1 2:1"), ([(0, (HUGE, HUGE - 1))], f"0:{NINES}/{HUGE - 1}"),
                ([(0, (-HUGE, 1))], f"0:-{NINES}"), ([(0, (1, 2))] * 40, " ".join(["0:1/2"] * 40))]
        for rules, text in told:
            self.assertEqual(format_rules(THREE, rules), text)
            self.assertEqual(parse_rules(THREE, text), rules)

    def test_there_and_back(self):
        source = random.Random(110)
        for book in BOOKS + random_books():
            for reach in (9, HUGE):
                rules = [(source.randrange(len(book)), random_fraction(source, reach)) for _ in range(source.randint(0, 40))]
                self.assertEqual(parse_rules(book, format_rules(book, rules)), rules)

    def test_the_first_wrong_word(self):
        told = [(" ", 0), ("0:1 ", 1), (" 0:1", 0), ("0:1  1:1", 1), ("3:1", 0), ("-1:1", 0), ("0:1 3:1 x", 1), ("x", 0),
                ("0", 0), ("0:", 0), (":1", 0), (":", 0), ("0:1:2", 0), ("0:1/2/3", 0), ("0:1/1", 0), ("0:2/2", 0),
                ("0:2/4", 0), ("0:0/2", 0), ("0:0/1", 0), ("0:1/0", 0), ("0:0/0", 0), ("0:1/-2", 0), ("0:/2", 0), ("0:1/", 0),
                ("0:1/02", 0), ("0:01/2", 0), ("00:1", 0), ("-0:1", 0), ("0:-0", 0), ("0:-0/3", 0), ("0:+1", 0), ("0 :1", 0),
                ("0:1/2 1:1/2 2:2/4", 2), ("0:1,1:1", 0), ("0:1.5", 0), ("2:1/2 0:-1/-2", 1), ("10:1", 0), ("0:--1", 0),
                ("0: 1", 0), ("0:1 1", 1), ("0/1", 0), ("1/2:0", 0), ("0:(1,2)", 0)]
        for text, place in told:
            self.assertEqual(self.place_of(parse_rules, THREE, text), place, text)

    def test_numbers_of_more_than_30_digits(self):
        self.assertEqual(parse_rules(LINE, f"0:{NINES} 1:-{NINES} 0:1/{NINES}")[2], (0, (1, HUGE)))
        for word in [f"0:{LONG}", f"0:-{LONG}", f"0:1/{LONG}", f"{LONG}:1", f"0:{LONG}/7", f"{NINES}:1", "0:" + "0" * 31]:
            self.assertEqual(self.place_of(parse_rules, LINE, f"0:1 {word}"), 1, word)

    def test_numbers_of_many_digits_are_written_as_they_are(self):
        great = 10 ** 30
        self.assertEqual(format_rules(LINE, [(0, (great, 1)), (1, (-great, great + 1))]),
                         f"0:{LONG} 1:-{LONG}/{'1' + '0' * 29 + '1'}")
        self.assertEqual(self.place_of(parse_rules, LINE, format_rules(LINE, [(1, (1, 1)), (0, (great, 1))])), 1)
        for number in (10 ** 60, 10 ** 60 - 1, 10 ** 60 + 1, 7 * 10 ** 119, 10 ** 180 - 10 ** 70, ring_total(1000)):
            self.assertEqual(format_rules(LINE, [(0, (number, 1)), (0, (-number, 1)), (1, (-1, number))]),
                             f"0:{number} 0:-{number} 1:-1/{number}")

    def test_numbers_of_thousands_of_digits(self):
        """Python's own str takes 4,300 digits at most."""
        found = format_rules(LINE, [(0, (ring_total(1000) ** 4, 1)), (1, (-(10 ** 6000), 3 ** 10000))])
        first, second = found.split(" ")
        self.assertGreater(len(first), 10000)
        # A number by its digits, some hundred at a time.
        value = 0
        for at in range(2, len(first), 100):
            part = first[at:at + 100]
            value = value * 10 ** len(part) + int(part)
        self.assertEqual(value, ring_total(1000) ** 4)
        self.assertEqual(second[:second.index("/")], "1:-1" + "0" * 6000)

    def test_the_forty_first_rule(self):
        text = " ".join(["2:-5/3"] * 40)
        self.assertEqual(parse_rules(THREE, text), [(2, (-5, 3))] * 40)
        for word in ["0:1", "", "x"]:
            self.assertEqual(self.place_of(parse_rules, THREE, f"{text} {word}"), 40)
        self.assertEqual(self.place_of(parse_rules, THREE, f"{text} 0:1 x"), 40)

    def test_kinds_of_the_book(self):
        for book in (LINE, BOXES2, TILTED, TWELVE):
            last = len(book) - 1
            self.assertEqual(parse_rules(book, f"{last}:1"), [(last, (1, 1))])
            self.assertEqual(self.place_of(parse_rules, book, f"{last}:1 {last + 1}:1"), 1)

    def test_all_small_fractions(self):
        for top in range(-6, 7):
            for bottom in range(-3, 7):
                text = f"1:{top}/{bottom}"
                if bottom > 1 and gcd(top, bottom) == 1:
                    self.assertEqual(parse_rules(LINE, text), [(1, (top, bottom))])
                    self.assertEqual(format_rules(LINE, [(1, (top, bottom))]), text)
                else:
                    self.assertEqual(self.place_of(parse_rules, LINE, text), 0)

    def test_wrong_rules(self):
        for rules, index in [(None, None), ([(0, (1, 1)), None], 1), ([(0, (1, 1))] * 41, None), ([(3, (1, 1))], 0)]:
            with self.assertRaises(InvalidRules) as caught:
                format_rules(THREE, rules)
            self.assertEqual(caught.exception.index, index)


if __name__ == "__main__":
    unittest.main()
