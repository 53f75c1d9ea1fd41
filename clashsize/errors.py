"""The errors of the package: each one stands directly under RuleError."""


class RuleError(ValueError):
    """What all errors of this package have in common."""


class InvalidRules(RuleError):
    """Not rules of the book; index is that of the first item that is no rule, or None."""

    def __init__(self, index):
        RuleError.__init__(self, f"not rules of the book, first wrong item: {index}")
        self.index = index


class InvalidRanges(RuleError):
    """Not a list of ranges; index is that of the first item that is no range, or None."""

    def __init__(self, index):
        RuleError.__init__(self, f"not a list of 1 to 400 ranges, first wrong item: {index}")
        self.index = index


class InvalidParties(RuleError):
    """Not a list of parties; index is that of the first item that is no party, or None."""

    def __init__(self, index):
        RuleError.__init__(self, f"not a list of 1 to 8 parties, first wrong item: {index}")
        self.index = index


class InvalidText(RuleError):
    """Not a text of this form; place is the index of the first wrong word, or None."""

    def __init__(self, place):
        RuleError.__init__(self, f"not a text of this form, first wrong word: {place}")
        self.place = place


class TooLarge(RuleError):
    """More than the limit."""

    def __init__(self, limit):
        RuleError.__init__(self, f"beyond the limit of {limit}")
        self.limit = limit


class Clash(RuleError):
    """The parties with these numbers do not meet."""

    def __init__(self, parties):
        RuleError.__init__(self, f"these parties clash: {parties}")
        # A list of the caller is copied: no references to arguments are kept.
        self.parties = list(parties) if type(parties) == list else parties


class InvalidBook(RuleError):
    """Not an ascending list of 1 to 12 kinds with as many unknowns."""


class InvalidKind(RuleError):
    """Not a kind with as many unknowns as the book."""


class InvalidNumbers(RuleError):
    """Not a tuple of as many integers as the book has unknowns."""


class InvalidNumber(RuleError):
    """Not an integer in the range that is asked for."""


class InvalidPoint(RuleError):
    """Not a point of the book."""


class InvalidWorld(RuleError):
    """Not a world of the book."""


class InvalidKnot(RuleError):
    """Not a knot of the book."""


class InvalidCross(RuleError):
    """Not a cross of the book."""


class InvalidFirmness(RuleError):
    """Not a list with an integer from 1 on for each kind."""


class InvalidSpeeds(RuleError):
    """Not a list with a fraction for each kind."""


class InvalidFraction(RuleError):
    """Not a fraction."""


class InvalidMatrix(RuleError):
    """Not a square of integers with the determinant 1 or -1 for the unknowns of the book."""


class InvalidArrows(RuleError):
    """Not an ascending list of 1 to 12 pairs of different unknowns."""


class InvalidFan(RuleError):
    """Not a fan."""


class InvalidHidden(RuleError):
    """Not an ascending list of one or more unknowns, but not of all."""


class InvalidSight(RuleError):
    """Not a sight of the book for these hidden unknowns."""


class InvalidParty(RuleError):
    """Not a list of 0 to 12 rules."""


class InvalidCommand(RuleError):
    """Not a command of the console."""


class NoKnot(RuleError):
    """The book has no knot."""


class NoWay(RuleError):
    """There is no way to the goal."""


class NoPoints(RuleError):
    """No point is in the world."""


class NoInside(RuleError):
    """No point obeys all rules with less than the bound."""


class Endless(RuleError):
    """The goal has no greatest value in the world."""


class NotClosed(RuleError):
    """The book is not lesser closed."""


class Undecided(RuleError):
    """The whole size of such a book is not told."""


class NothingToUndo(RuleError):
    """No call is left to take back."""
