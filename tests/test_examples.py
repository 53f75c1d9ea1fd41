"""The examples of the document, as they are written there."""

import doctest
import unittest
from pathlib import Path

from clashsize.errors import RuleError

BOOKS = """
>>> boxes2 = [(-1, 0), (0, -1), (0, 1), (1, 0)]
>>> three = [(-1, -1), (0, 1), (1, 0)]
>>> tilted = [(-1, -1), (-1, 1), (1, -1), (1, 1)]
"""

KINDS = """
>>> from clashsize.kinds import beside, is_book, mixed, obeys, product, rank, world_of
>>> [is_book(three), is_book([(2, 2)]), rank(three), product(three, (2, 5), ((1, 2), (1, 5))), beside([(1,)], [(-1,), (1,)])]
[True, False, 2, (2, 1), [(0, -1), (0, 1), (1, 0)]]
>>> [mixed(boxes2, ((1, 1), (0, 1))), world_of(three, [(0, (5, 1)), (0, (3, 1)), (2, (1, 2))]), obeys(three, [(0, (0, 1)), (2, (1, 2))], ((1, 2), (0, 1)))]
[[(-1, -1), (0, -1), (0, 1), (1, 1)], [(3, 1), None, (1, 2)], True]
"""

KNOTS = """
>>> from clashsize.knots import clash_size, greatest_knot, is_knot, knot_numbers, knots, knots_with
>>> [knots(boxes2), knots(three), knot_numbers(three), clash_size(tilted), greatest_knot(boxes2), knots_with(tilted, 1), is_knot(three, [(0, 2), (1, 2), (2, 2)])]
[[[(0, 1), (3, 1)], [(1, 1), (2, 1)]], [[(0, 1), (1, 1), (2, 1)]], [0, 1], 2, [(0, 1), (3, 1)], [[(1, 1), (2, 1)]], False]
"""

PARTS = """
>>> from clashsize.parts import components, free_kinds, is_falling, is_sliding, pairs_enough
>>> half = [(-1, 0), (0, 1), (1, 0)]
>>> [free_kinds(half), is_sliding(half, (0, -1)), is_falling([(0, 1), (1, 0)], (-1, -1)), components(boxes2), components(three), pairs_enough(tilted)]
[[1], True, True, [[0, 3], [1, 2]], [[0, 1, 2]], True]
"""

WORLDS = """
>>> from clashsize.worlds import breaks_alone, broken, has_points, is_forcing, knot_sum
>>> world = [(-1, 1), (0, 1), (0, 1)]
>>> [broken(three, world), knot_sum(three, [(0, 1), (1, 1), (2, 1)], world), has_points(three, [(-1, 1), None, (0, 1)]), breaks_alone(boxes2, [(0, 1), (3, 1)], [(-1, 1), (5, 1), (5, 1), (0, 1)])]
[[[(0, 1), (1, 1), (2, 1)]], (-1, 1), True, True]
>>> is_forcing(three, ([(0, (-1, 1)), (1, (0, 1)), (2, (0, 1))], [((0, 1), (0, 1)), ((0, 1), (1, 1)), ((1, 1), (0, 1))]))
True
"""

FAMILIES = """
>>> from clashsize.families import arrows, box_size, differences, fan_numbers, ring_number, ring_total
>>> [arrows(3, [(0, 1), (1, 2), (2, 0)]), len(differences(4)), ring_number(4, 3), ring_total(4), box_size((1, 0, -2)), fan_numbers([(-1, -1), (-1, 0), (-1, 1), (0, -1), (0, 1), (1, -1), (1, 0), (1, 1)])]
[[(-1, 0, 1), (0, 1, -1), (1, -1, 0)], 12, 8, 20, 3, (4, 8)]
"""

CHANGES = """
>>> from clashsize.changes import adds_knots, fewest_out, is_blocking, needed_kinds, raising, size_with
>>> [size_with(boxes2, (1, 1)), adds_knots(boxes2, (1, 1)), is_blocking([(1, 0)], (0, 1), (0, -1)), raising(boxes2, 1), needed_kinds(three), fewest_out(boxes2, 0)]
[3, 1, True, [(-1, -1), (-1, 1), (1, -1), (1, 1)], [0, 1, 2], [[0, 1], [0, 2], [1, 3], [2, 3]]]
"""

CLASHES = """
>>> from clashsize.clashes import clash_number, clashes, is_clash, meet, point_of
>>> rules = [(0, (-3, 1)), (1, (1, 1)), (2, (1, 1)), (2, (9, 1)), (1, (0, 1))]
>>> [meet(three, rules), clash_number(three, rules), clashes(three, rules), meet(three, rules[:1] + rules[3:]), point_of(three, rules), is_clash(three, rules, [(0, 1), (2, 1)])]
[False, 2, [[(0, 1), (1, 1), (2, 1)], [(0, 1), (2, 1), (4, 1)]], True, None, False]
"""

MOVES = """
>>> from clashsize.moves import holding, loosening, meeting_times, moved
>>> world = [(-1, 1), (0, 1), (0, 1)]
>>> [loosening(three, world, [1, 1, 1]), loosening(three, world, [1, 2, 1]), holding(three, world, [1, 1, 1]), moved(three, world, [(0, 1), (1, 1), (1, 2)], (2, 1))]
[(1, 3), (1, 4), [[(0, 1), (1, 1), (2, 1)]], [(-1, 1), (2, 1), (1, 1)]]
>>> [meeting_times(three, world, [(0, 1), (1, 1), (1, 1)]), meeting_times(three, world, [(0, 1), (0, 1), (0, 1)]), meeting_times(boxes2, [(0, 1), (0, 1), (1, 1), (1, 1)], [(0, 1), (-1, 1), (0, 1), (1, 1)])]
[((1, 2), None), None, ((-1, 1), (1, 1))]
"""

WAYS = """
>>> from clashsize.ways import conclusion_size, follows, greatest, is_concluding, is_rising, ways
>>> roof = [(0, 1), (2, 1), (3, 1)]
>>> [ways(three, (-1, 0)), conclusion_size(three, (-1, 0)), greatest(three, roof, (-1, 0)), greatest(three, roof, (1, 2)), follows(three, roof, (1, 1), (5, 1)), ways(three, (0, 0))]
[[[(0, (1, 1)), (1, (1, 1))]], 2, (2, 1), (7, 1), True, [[]]]
>>> [greatest(three, [None, (2, 1), (3, 1)], (-1, 0)), is_rising(three, [None, (2, 1), (3, 1)], (-1, 0), (-1, 0)), is_concluding(three, (-1, 0), ([(0, (0, 1)), (1, (0, 1))], [((-1, 1), (0, 1)), ((-1, 1), (1, 1))]))]
[None, True, True]
"""

TIGHTS = """
>>> from clashsize.tights import core, covering, dimension, has_inside, idle, is_bounded, same_points, tight
>>> five = [(-1, 0), (0, -1), (0, 1), (1, 0), (1, 1)]
>>> box = [(0, 1), (0, 1), (3, 1), (2, 1), None]
>>> [tight(five, box), idle(five, box[:4] + [(5, 1)]), core(five, box), same_points(five, box, box[:4] + [(6, 1)]), dimension(five, box), is_bounded(five, box)]
[[(0, 1), (0, 1), (3, 1), (2, 1), (5, 1)], [4], [0, 1, 2, 3], True, 2, True]
>>> [covering(five, box, [(-4, 1), (0, 1), (1, 1), (4, 1), None]), dimension(tilted, [(-1, 1), (0, 1), (0, 1), (1, 1)]), has_inside(tilted, [(-1, 1), (0, 1), (0, 1), (1, 1)])]
[[(0, 1), (0, 1), (3, 1), (4, 1), (5, 1)], 0, False]
"""

LEASTS = """
>>> from clashsize.leasts import greater_closed, is_lesser_pair, least_point, lesser_closed
>>> late = [(-1, 0), (0, -1), (1, -1)]
>>> [lesser_closed(three), greater_closed(three), lesser_closed(late), least_point(late, [(-2, 1), (0, 1), (-3, 1)]), is_lesser_pair(three, ((0, (-1, 1)), ((1, 1), (0, 1)), ((0, 1), (1, 1))))]
[False, True, True, ((2, 1), (5, 1)), True]
"""

SIGHTS = """
>>> from clashsize.sights import is_seen, seen_kinds, seen_rules, seen_size, shown, sights
>>> lean = [(-1, 1), (0, -1), (1, 1)]
>>> [sights(lean, [1]), shown(lean, [1], [(0, 1), (1, 1)]), seen_kinds(lean, [1]), seen_rules(lean, [(2, 1), (1, 1), None], [1]), is_seen(lean, [(2, 1), (1, 1), (0, 1)], [1], ((1, 1),)), seen_size(lean, [1])]
[[[(0, 1), (1, 1)], [(1, 1), (2, 1)]], (-1,), [(-1,), (1,)], [((-1,), (3, 1))], True, 2]
"""

WHOLES = """
>>> from clashsize.wholes import cross_rules, is_cross, is_level, middle, rounded, whole_size
>>> sign = ((1, 0), (0, 1), (3, 2, 1, 0))
>>> [whole_size(tilted), whole_size(boxes2), whole_size(three), is_cross(tilted, sign), cross_rules(tilted, sign), middle(tilted, sign)]
[4, 2, 3, True, [(3, (1, 1)), (2, (0, 1)), (1, (0, 1)), (0, (-1, 1))], ((1, 2), (1, 2))]
>>> [is_level(three), is_level(tilted), rounded(three, [(7, 2), None, (-1, 3)])]
[True, False, [(3, 1), None, (-1, 1)]]
"""

RANGES = """
>>> from clashsize.ranges import crowd_place, depth_of, forced_depth, have_meetings, meeting_pairs, most_pairs, most_without
>>> some = [(0, 4), (3, 6), (5, 9), (8, 9), (20, 20)]
>>> [depth_of(some), crowd_place(some), meeting_pairs(some), most_pairs(5, 2), forced_depth(5, 4), forced_depth(5, 5), most_without(some, 2), have_meetings(some, 4, 2), have_meetings(some, 3, 2)]
[2, 3, 3, 4, 2, 3, 3, True, False]
"""

PARTIES = """
>>> from clashsize.parties import all_meet, crowds, fewest_parties_out, party_clashes
>>> guests = [[(0, (-1, 1))], [(1, (0, 1))], [(2, (0, 1))], [(1, (5, 1)), (2, (5, 1))]]
>>> [all_meet(three, guests), party_clashes(three, guests), crowds(three, guests), fewest_parties_out(three, guests)]
[False, [[0, 1, 2]], [[0, 1, 3], [0, 2, 3], [1, 2, 3]], 1]
"""

BOARD = """
>>> from clashsize.board import Board, CountingBoard
>>> desk = CountingBoard(three)
>>> [desk.add([(0, (-1, 1))]), desk.add([(1, (0, 1))]), desk.is_open, desk.add([(2, (0, 1))]), desk.is_open, desk.remove(1), desk.is_open, desk.undo(), desk.described(), len(desk.twin()), desk == Board(three)]
[0, 1, True, 2, False, None, True, None, (3, False, 1), 3, False]
>>> from clashsize.board import GuardedBoard
>>> desk = GuardedBoard(boxes2)
>>> [desk.add([(0, (-1, 1))]), desk.add([(1, (0, 1))])]
[0, 1]
>>> raised(lambda: desk.add([(3, (0, 1))]))
raises Clash(parties=[0, 2])
"""

TEXTS = """
>>> from clashsize.texts import format_book, format_rules, parse_book, parse_rules
>>> [format_book(three), parse_book("-1,0 1,0"), format_rules(three, [(0, (-1, 2)), (2, (3, 1))]), parse_rules(three, "1:-7/3")]
['-1,-1 0,1 1,0', [(-1, 0), (1, 0)], '0:-1/2 2:3', [(1, (-7, 3))]]
>>> from clashsize.texts import parse_book
>>> raised(lambda: parse_book("1,0 -1,0"))
raises InvalidText(place=1)
"""

CONSOLE = """
>>> from clashsize.console import Console
>>> desk = Console()
>>> [desk.execute(command) for command in ["size", "book -1,-1 0,1 1,0", "size", "whole", "greatest", "add 0:-1", "add 1:0 2:0", "open", "undo", "open", "guests", "free", "knots"]]
['2', 'ok', '3', '3', '0*1 1*1 2*1', '0', '1', 'no', 'ok', 'yes', '1', 'none', '1']
"""


def raised(call):
    """Prints the error that a call raises as the document writes it."""
    try:
        call()
    except RuleError as error:
        print(f"raises {type(error).__name__}({', '.join([f'{name}={value}' for name, value in vars(error).items()])})")


class Examples(unittest.TestCase):
    def check(self, name, text, number):
        """All examples of a text hold, and none was passed over."""
        told = []
        test = doctest.DocTestParser().get_doctest(BOOKS + "\n" + text, {"raised": raised}, name, None, 0)
        results = doctest.DocTestRunner(verbose=False).run(test, out=told.append)
        self.assertEqual((results.failed, results.attempted), (0, number), "".join(told))

    def test_kinds(self):
        self.check("kinds", KINDS, 6)

    def test_knots(self):
        self.check("knots", KNOTS, 5)

    def test_parts(self):
        self.check("parts", PARTS, 6)

    def test_worlds(self):
        self.check("worlds", WORLDS, 7)

    def test_families(self):
        self.check("families", FAMILIES, 5)

    def test_changes(self):
        self.check("changes", CHANGES, 5)

    def test_clashes(self):
        self.check("clashes", CLASHES, 6)

    def test_moves(self):
        self.check("moves", MOVES, 7)

    def test_ways(self):
        self.check("ways", WAYS, 7)

    def test_tights(self):
        self.check("tights", TIGHTS, 8)

    def test_leasts(self):
        self.check("leasts", LEASTS, 6)

    def test_sights(self):
        self.check("sights", SIGHTS, 6)

    def test_wholes(self):
        self.check("wholes", WHOLES, 7)

    def test_ranges(self):
        self.check("ranges", RANGES, 6)

    def test_parties(self):
        self.check("parties", PARTIES, 6)

    def test_board(self):
        self.check("board", BOARD, 10)

    def test_texts(self):
        self.check("texts", TEXTS, 7)

    def test_console(self):
        self.check("console", CONSOLE, 6)

    def test_readme(self):
        readme = Path(__file__).resolve().parent.parent / "README.md"
        # The fences end the examples as blank lines would.
        self.check("readme", readme.read_text().replace("```", ""), 46)


if __name__ == "__main__":
    unittest.main()
