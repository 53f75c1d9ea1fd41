"""Boards: parties of a book that come and go."""

from clashsize.errors import Clash, InvalidNumber, InvalidParty, NothingToUndo, TooLarge
from clashsize.kinds import check_book, is_integer
from clashsize.parties import MOST_PARTIES, is_party, joined, smallest_clashes
from clashsize.worlds import has_points


class Board:
    """Parties of a book that come and go."""

    def __init__(self, book):
        check_book(book)
        # Boards of unlike classes are not equal.
        self._label = "plain"
        self._book = list(book)
        self._calls = []
        # Ahead of all calls and behind each: tuples (number, party), with parties as tuples, and whether all meet.
        self._states = [((), True)]

    def add(self, party):
        """Adds a party and returns its number."""
        guests = self._with_new(party)
        self._take(("add", tuple(party)), guests)
        return guests[-1][0]

    def remove(self, number):
        """Takes out the party with a number."""
        self._check_number(number)
        self._take(("remove", number), tuple([guest for guest in self._now() if guest[0] != number]))

    def exchange(self, number, party):
        """Puts another party in the place of the one with a number."""
        guests = self._with_other(number, party)
        self._take(("exchange", number, tuple(party)), guests)

    def undo(self):
        """Takes back the last call that is not taken back."""
        if not self._calls:
            raise NothingToUndo("no call is left to take back")
        self._calls.pop()
        self._states.pop()

    def twin(self):
        """An independent board with the same parties and calls."""
        return _with_calls(Board(self._book), self)

    def described(self):
        """The tuple of the number of parties, whether they meet, and None, since no closings are counted."""
        return (len(self), self.is_open, None)

    @property
    def guests(self):
        """The ascending list of the tuples (number, party)."""
        return [(number, list(party)) for number, party in self._states[-1][0]]

    @property
    def is_open(self):
        """Whether all parties meet."""
        return self._states[-1][1]

    @property
    def calls(self):
        """The list of the calls that are not taken back."""
        return [tuple([list(item) if type(item) == tuple else item for item in call]) for call in self._calls]

    def __len__(self):
        return len(self._states[-1][0])

    def __eq__(self, other):
        if not isinstance(other, Board):
            return False
        return self._label == other._label and self._book == other._book and self._calls == other._calls

    def _now(self):
        """The parties that are there, as tuples (number, party)."""
        return self._states[-1][0]

    def _with_new(self, party):
        """The parties that would be there behind an adding, if no error forbids it."""
        self._check_party(party)
        if len(self._now()) == MOST_PARTIES:
            raise TooLarge(MOST_PARTIES)
        number = len([call for call in self._calls if call[0] == "add"])
        return self._now() + ((number, tuple(party)),)

    def _with_other(self, number, party):
        """The parties that would be there behind an exchange, if no error forbids it."""
        self._check_number(number)
        self._check_party(party)
        return tuple([(number, tuple(party)) if guest[0] == number else guest for guest in self._now()])

    def _take(self, call, guests):
        """Notes a call and the parties behind it."""
        world = joined(self._book, [party for _, party in guests])
        self._calls.append(call)
        self._states.append((guests, has_points(self._book, world)))

    def _check_party(self, party):
        """InvalidParty unless it is a party of the book."""
        if not is_party(self._book, party):
            raise InvalidParty("not a list of 0 to 12 rules of the book")

    def _check_number(self, number):
        """InvalidNumber unless it is that of a party that is there."""
        if not is_integer(number) or number not in [guest[0] for guest in self._now()]:
            raise InvalidNumber("not the number of a party that is there")


class GuardedBoard(Board):
    """A board whose parties always meet."""

    def __init__(self, book):
        super().__init__(book)
        self._label = "guarded"

    def add(self, party):
        """Adds a party that meets the others and returns its number."""
        self._guard(self._with_new(party))
        return super().add(party)

    def exchange(self, number, party):
        """Puts another party that meets the others in the place of the one with a number."""
        self._guard(self._with_other(number, party))
        super().exchange(number, party)

    def twin(self):
        """An independent board with the same parties and calls."""
        return _with_calls(GuardedBoard(self._book), self)

    def described(self):
        """The tuple of the number of parties, whether they meet, and None, since no closings are counted."""
        return (len(self), self.is_open, None)

    def _guard(self, guests):
        """Clash with the numbers of the least parties that clash, unless all meet."""
        found = smallest_clashes(self._book, [party for _, party in guests])
        if found:
            raise Clash([guests[index][0] for index in found[0]])


class CountingBoard(Board):
    """A board that counts the calls behind which its parties did not meet any more."""

    def __init__(self, book):
        super().__init__(book)
        self._label = "counting"

    def twin(self):
        """An independent board with the same parties and calls."""
        return _with_calls(CountingBoard(self._book), self)

    def described(self):
        """The tuple of the number of parties, whether they meet, and the closings."""
        return (len(self), self.is_open, self.closings)

    @property
    def closings(self):
        """The number of the calls that are not taken back ahead of which the parties met, and behind which not."""
        meetings = [meets for _, meets in self._states]
        return len([1 for ahead, behind in zip(meetings, meetings[1:]) if ahead and not behind])


class GuardedCountingBoard(GuardedBoard, CountingBoard):
    """A board whose parties always meet, and that tells its closings, of which there never are any."""

    def __init__(self, book):
        super().__init__(book)
        self._label = "guarded and counting"

    def twin(self):
        """An independent board with the same parties and calls."""
        return _with_calls(GuardedCountingBoard(self._book), self)

    def described(self):
        """The tuple of the number of parties, whether they meet, and the closings."""
        return (len(self), self.is_open, self.closings)


def _with_calls(board, other):
    """A board that is made as it were by the calls of another one."""
    board._calls = list(other._calls)
    board._states = list(other._states)
    return board
