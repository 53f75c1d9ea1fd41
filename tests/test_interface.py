"""The interface of the document: names, parameters and the files in which they are defined."""

import importlib
import inspect
import unittest

from calls import CALLS

INTERFACE = {
    "clashsize.errors": {
        "RuleError": None, "InvalidRules": ["index"], "InvalidRanges": ["index"], "InvalidParties": ["index"],
        "InvalidText": ["place"], "TooLarge": ["limit"], "Clash": ["parties"],
    },
    "clashsize.kinds": {
        "is_kind": ["value"], "is_book": ["value"], "is_fraction": ["value"], "is_rules": ["book", "value"],
        "is_world": ["book", "value"], "is_point": ["book", "value"], "product": ["book", "numbers", "point"],
        "obeys": ["book", "rules", "point"], "is_in": ["book", "world", "point"], "rank": ["book"],
        "world_of": ["book", "rules"], "opposites": ["book"], "mixed": ["book", "matrix"],
        "beside": ["book", "other_book"],
    },
    "clashsize.knots": {
        "knots": ["book"], "knot_numbers": ["book"], "clash_size": ["book"], "is_knot": ["book", "value"],
        "greatest_knot": ["book"], "knots_with": ["book", "number"],
    },
    "clashsize.parts": {
        "free_kinds": ["book"], "falling": ["book"], "sliding": ["book"], "is_falling": ["book", "value"],
        "is_sliding": ["book", "value"], "components": ["book"], "pairs_enough": ["book"], "is_two_sided": ["book"],
    },
    "clashsize.worlds": {
        "knot_sum": ["book", "knot", "world"], "broken": ["book", "world"], "has_points": ["book", "world"],
        "breaking": ["book", "knot"], "breaks_alone": ["book", "knot", "value"], "forcing": ["book"],
        "is_forcing": ["book", "value"],
    },
    "clashsize.families": {
        "boxes": ["number"], "differences": ["number"], "arrows": ["number", "pairs"], "ring_number": ["number", "size"],
        "ring_total": ["number"], "box_size": ["kind"], "fan_numbers": ["fan"],
    },
    "clashsize.changes": {
        "size_with": ["book", "kind"], "adds_knots": ["book", "kind"], "blocking": ["book", "kind"],
        "is_blocking": ["book", "kind", "value"], "raising": ["book", "reach"], "needed_kinds": ["book"],
        "fewest_out": ["book", "size"],
    },
    "clashsize.clashes": {
        "meet": ["book", "rules"], "point_of": ["book", "rules"], "clash_number": ["book", "rules"],
        "clashes": ["book", "rules"], "clash_of": ["book", "rules"], "is_clash": ["book", "rules", "value"],
    },
    "clashsize.moves": {
        "loosening": ["book", "world", "firmness"], "holding": ["book", "world", "firmness"],
        "moved": ["book", "world", "speeds", "time"], "meeting_times": ["book", "world", "speeds"],
    },
    "clashsize.ways": {
        "ways": ["book", "numbers"], "is_way": ["book", "numbers", "value"], "conclusion_size": ["book", "numbers"],
        "greatest": ["book", "world", "numbers"], "highest": ["book", "world", "numbers"],
        "follows": ["book", "world", "numbers", "bound"], "rising": ["book", "world", "numbers"],
        "is_rising": ["book", "world", "numbers", "value"], "concluding": ["book", "numbers"],
        "is_concluding": ["book", "numbers", "value"],
    },
    "clashsize.tights": {
        "tight": ["book", "world"], "same_points": ["book", "world", "other"], "parting": ["book", "world", "other"],
        "covering": ["book", "world", "other"], "idle": ["book", "world"], "has_inside": ["book", "world"],
        "inside_point": ["book", "world"], "core": ["book", "world"], "dimension": ["book", "world"],
        "is_bounded": ["book", "world"],
    },
    "clashsize.leasts": {
        "lesser_closed": ["book"], "greater_closed": ["book"], "lesser_pair": ["book"],
        "is_lesser_pair": ["book", "value"], "least_point": ["book", "world"],
    },
    "clashsize.sights": {
        "sights": ["book", "hidden"], "shown": ["book", "hidden", "sight"], "seen_kinds": ["book", "hidden"],
        "seen_rules": ["book", "world", "hidden"], "is_seen": ["book", "world", "hidden", "point"],
        "completed": ["book", "world", "hidden", "point"], "seen_size": ["book", "hidden"],
        "barring": ["book", "hidden", "sight"], "is_barring": ["book", "hidden", "sight", "value"],
    },
    "clashsize.wholes": {
        "is_level": ["book"], "whole_size": ["book"], "cross": ["book"], "is_cross": ["book", "value"],
        "rounded": ["book", "world"], "whole_forcing": ["book"], "cross_rules": ["book", "sign"],
        "middle": ["book", "sign"],
    },
    "clashsize.ranges": {
        "depth_of": ["ranges"], "crowd_place": ["ranges"], "meeting_pairs": ["ranges"], "most_pairs": ["number", "depth"],
        "forced_depth": ["number", "pairs"], "crowded": ["number", "depth"], "apart": ["ranges"], "hitting": ["ranges"],
        "most_without": ["ranges", "number"], "have_meetings": ["ranges", "size", "number"], "fewest_left": ["ranges"],
    },
    "clashsize.parties": {
        "all_meet": ["book", "parties"], "party_clashes": ["book", "parties"], "crowds": ["book", "parties"],
        "fewest_parties_out": ["book", "parties"], "meeting_place": ["book", "parties"], "combined": ["book", "parties"],
    },
    "clashsize.board": {
        "Board": ["book"], "GuardedBoard": ["book"], "CountingBoard": ["book"], "GuardedCountingBoard": ["book"],
    },
    "clashsize.texts": {
        "format_book": ["book"], "format_rules": ["book", "rules"], "parse_book": ["text"], "parse_rules": ["book", "text"],
    },
    "clashsize.console": {"Console": []},
}
# The methods and properties of each class, all of them in the class itself; None stands for a property.
METHODS = {
    ("clashsize.board", "Board"): {
        "__init__": ["book"], "add": ["party"], "remove": ["number"], "exchange": ["number", "party"], "undo": [],
        "twin": [], "described": [], "guests": None, "is_open": None, "calls": None, "__len__": [], "__eq__": ["other"],
    },
    ("clashsize.board", "GuardedBoard"): {
        "__init__": ["book"], "add": ["party"], "exchange": ["number", "party"], "twin": [], "described": [],
    },
    ("clashsize.board", "CountingBoard"): {"__init__": ["book"], "twin": [], "described": [], "closings": None},
    ("clashsize.board", "GuardedCountingBoard"): {"__init__": ["book"], "twin": [], "described": []},
    ("clashsize.console", "Console"): {"__init__": [], "execute": ["command"]},
}


class Interface(unittest.TestCase):
    def test_names_are_defined_in_their_files(self):
        for name, members in INTERFACE.items():
            module = importlib.import_module(name)
            for member in members:
                self.assertEqual(getattr(module, member).__module__, name, member)

    def test_parameters(self):
        for name, members in INTERFACE.items():
            module = importlib.import_module(name)
            for member, parameters in members.items():
                if parameters is not None:
                    found = inspect.signature(getattr(module, member)).parameters
                    self.assertEqual(list(found), parameters, member)
                    self.assertLessEqual({item.kind for item in found.values()},
                                         {inspect.Parameter.POSITIONAL_OR_KEYWORD}, member)
                    self.assertLessEqual({item.default for item in found.values()}, {inspect.Parameter.empty}, member)

    def test_methods_stand_in_their_classes(self):
        for (name, member), methods in METHODS.items():
            own = vars(getattr(importlib.import_module(name), member))
            for method, parameters in methods.items():
                if parameters is None:
                    self.assertIs(type(own[method]), property, (member, method))
                else:
                    found = inspect.signature(own[method]).parameters
                    self.assertEqual(list(found)[1:], parameters, (member, method))
                    self.assertEqual({item.default for item in found.values()}, {inspect.Parameter.empty})

    def test_each_function_has_a_call_in_the_tests(self):
        listed = {(name, member) for name, members in INTERFACE.items() for member in members
                  if name not in ("clashsize.errors", "clashsize.board", "clashsize.console")}
        self.assertEqual({(call.__module__, call.__name__) for call, _ in CALLS}, listed)
        for call, given in CALLS:
            self.assertEqual(list(given), INTERFACE[call.__module__][call.__name__])


if __name__ == "__main__":
    unittest.main()
