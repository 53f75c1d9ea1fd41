"""Promises 2 and 3 over all functions of the interface: arguments, results, and which error comes when."""

import copy
import unittest

from clashsize import clashes, errors, families, kinds, knots, leasts, moves, ranges, sights, tights, ways, wholes, worlds
from clashsize.board import CountingBoard

from calls import BOX, CALLS, CLASHING, FIVE, KNOT, LATE, LOOSE, NO_ERRORS, POINT, RULES, SPEEDS, TIGHT, WORLD, error_for
from samples import BOXES2, GUESTS, LEAN, LINE, ODD_VALUES, SOME, THREE, TILTED

TRUTHS = (
    "obeys", "pairs_enough", "has_points", "breaks_alone", "meet", "follows", "same_points", "has_inside",
    "lesser_closed", "greater_closed", "have_meetings", "all_meet",
)


def lists_in(value):
    """The lists in a value, itself included."""
    found = [value] if isinstance(value, list) else []
    if isinstance(value, (list, tuple)):
        for item in value:
            found = found + lists_in(item)
    return found


class Arguments(unittest.TestCase):
    def test_by_name_as_by_position(self):
        for call, given in CALLS:
            answer = call(*given.values())
            self.assertEqual(call(**given), answer, call)
            backwards = dict(reversed(list(given.items())))
            self.assertEqual(call(**backwards), answer, call)

    def test_arguments_are_the_same_behind_the_call(self):
        for call, given in CALLS:
            kept = copy.deepcopy(given)
            call(**given)
            self.assertEqual(given, kept, call)

    def test_arguments_are_the_same_behind_an_error(self):
        wrong = [[(0, 1), (1, 0), [0]], [(1, 0), (0, 1)], [RULES, [RULES]], [None, [None]]]
        for call, given in CALLS:
            for name in given:
                for value in wrong:
                    kept = copy.deepcopy(value)
                    try:
                        call(**{**given, name: value})
                    except errors.RuleError:
                        pass
                    self.assertEqual(value, kept, call)

    def test_equal_arguments_give_equal_results(self):
        for call, given in CALLS:
            self.assertEqual(call(**copy.deepcopy(given)), call(**given), call)


class Results(unittest.TestCase):
    def test_returned_lists_are_new(self):
        for call, given in CALLS:
            first = call(**given)
            second = call(**given)
            lists = lists_in(first) + lists_in(second) + lists_in(list(given.values()))
            self.assertEqual(len({id(item) for item in lists}), len(lists), call)

    def test_a_changed_result_changes_no_later_one(self):
        for call, given in CALLS:
            kept = copy.deepcopy(call(**given))
            result = call(**given)
            for item in lists_in(result):
                item.append("more")
            self.assertEqual(call(**given), kept, call)

    def test_arguments_that_are_changed_later_change_no_result(self):
        for call, given in CALLS:
            lent = copy.deepcopy(given)
            result = call(**lent)
            kept = copy.deepcopy(result)
            for item in lists_in(list(lent.values())):
                item.clear()
            self.assertEqual(result, kept, call)

    def test_truths_are_true_or_false(self):
        for call, given in CALLS:
            if call.__name__.startswith("is_") or call.__name__ in TRUTHS:
                self.assertIn(call(**given), (True, False))
                self.assertIs(type(call(**given)), bool, call)

    def test_numbers_are_no_truths(self):
        for call, given in [(kinds.rank, LINE), (knots.clash_size, LINE), (knots.clash_size, [(1,)]),
                            (families.ring_total, 2), (families.box_size, (1,))]:
            self.assertIs(type(call(given)), int)

    def test_what_was_returned_can_be_passed_back(self):
        self.assertEqual(kinds.opposites(kinds.opposites(kinds.beside(LINE, LINE))), BOXES2)
        self.assertIs(knots.is_knot(TILTED, knots.knots(TILTED)), False)
        self.assertIs(knots.is_knot(TILTED, knots.knots(TILTED)[0]), True)
        self.assertIs(kinds.is_world(THREE, kinds.world_of(THREE, RULES)), True)
        self.assertIs(kinds.is_fraction(kinds.product(THREE, (3, 7), POINT)), True)
        self.assertIs(kinds.is_book(kinds.mixed(THREE, ((1, 1), (0, 1)))), True)
        self.assertIs(kinds.is_book(families.boxes(5)), True)
        self.assertIs(worlds.breaks_alone(THREE, KNOT, worlds.breaking(THREE, KNOT)), True)
        self.assertIs(worlds.is_forcing(THREE, worlds.forcing(THREE)), True)
        self.assertIs(clashes.is_clash(THREE, CLASHING, clashes.clashes(THREE, CLASHING)[1]), True)
        self.assertIs(ways.is_concluding(THREE, (-1, 0), ways.concluding(THREE, (-1, 0))), True)
        self.assertIs(clashes.meet(THREE, worlds.forcing(THREE)[0]), False)
        self.assertEqual(tights.tight(FIVE, tights.tight(FIVE, BOX)), tights.tight(FIVE, BOX))
        later = moves.moved(THREE, WORLD, SPEEDS, moves.loosening(THREE, TIGHT, [1, 2, 3]))
        self.assertIs(worlds.has_points(THREE, later), True)
        self.assertIs(leasts.is_lesser_pair(THREE, leasts.lesser_pair(THREE)), True)
        least = leasts.least_point(LATE, [(-2, 1), (0, 1), (-3, 1)])
        self.assertIs(kinds.is_in(LATE, [(-2, 1), (0, 1), (-3, 1)], least), True)
        sight = sights.sights(LEAN, [1])[1]
        self.assertIs(sights.is_barring(LEAN, [1], sight, sights.barring(LEAN, [1], sight)), True)
        point = sights.completed(LEAN, LOOSE, [1], ((1, 1),))
        self.assertIs(kinds.is_in(LEAN, LOOSE, point), True)
        self.assertIs(sights.is_seen(LEAN, LOOSE, [1], point[:1]), True)
        self.assertIs(kinds.is_book(sights.seen_kinds(LEAN, [1])), True)
        sign = wholes.cross(TILTED)
        self.assertIs(wholes.is_cross(TILTED, sign), True)
        self.assertIs(kinds.obeys(TILTED, wholes.cross_rules(TILTED, sign), wholes.middle(TILTED, sign)), True)
        rules, points = wholes.whole_forcing(TILTED)
        self.assertEqual([kinds.obeys(TILTED, rules[1:], points[0]), kinds.obeys(TILTED, rules, points[0])], [True, False])
        self.assertEqual(ranges.depth_of(ranges.crowded(9, 3)), 3)
        self.assertEqual([ranges.meeting_pairs([SOME[at] for at in ranges.apart(SOME)])], [0])


class Errors(unittest.TestCase):
    def check(self, call, given, error):
        with self.assertRaises(error) as caught:
            call(**given)
        self.assertIs(type(caught.exception), error)
        self.assertIsInstance(caught.exception, errors.RuleError)
        self.assertIsInstance(caught.exception, ValueError)

    def test_any_value_in_the_place_of_each_parameter(self):
        for call, given in CALLS:
            for name in given:
                for value in ODD_VALUES:
                    with self.subTest(call=call.__name__, name=name, value=value):
                        if value in NO_ERRORS.get((call.__name__, name), []):
                            call(**{**given, name: value})
                        elif error_for(call, name):
                            self.check(call, {**given, name: value}, error_for(call, name))
                        else:
                            self.assertIs(call(**{**given, name: value}), False)

    def test_objects_of_the_package_are_as_before(self):
        desk = CountingBoard(THREE)
        desk.add(GUESTS[0])
        twin = desk.twin()
        for call, given in CALLS:
            for name in given:
                try:
                    call(**{**given, name: desk})
                except errors.RuleError:
                    pass
                self.assertEqual(desk, twin)

    def test_the_first_wrong_parameter_counts(self):
        for call, given in CALLS:
            names = list(given)
            for at, name in enumerate(names):
                if error_for(call, name):
                    wrong = {later: "wrong" for later in names[at:]}
                    self.check(call, {**given, **wrong}, error_for(call, name))

    def test_a_value_for_an_unknown_number_of_unknowns(self):
        """What fits one book does not fit another one."""
        self.check(kinds.product, {"book": LINE, "numbers": (2, 5), "point": POINT}, errors.InvalidNumbers)
        self.check(kinds.product, {"book": LINE, "numbers": (2,), "point": POINT}, errors.InvalidPoint)
        self.check(kinds.is_in, {"book": LINE, "world": WORLD, "point": POINT}, errors.InvalidWorld)
        self.check(kinds.obeys, {"book": LINE, "rules": RULES, "point": POINT}, errors.InvalidRules)
        self.check(kinds.mixed, {"book": LINE, "matrix": ((1, 1), (0, 1))}, errors.InvalidMatrix)
        self.check(knots.knots_with, {"book": LINE, "number": 2}, errors.InvalidNumber)


if __name__ == "__main__":
    unittest.main()
