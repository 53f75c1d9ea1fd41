"""The interface of the document: names, parameters and the files in which they are defined."""

import importlib
import inspect
import unittest

INTERFACE = {
    "clashsize.errors": {
        "RuleError": None, "InvalidRules": ["index"], "InvalidRanges": ["index"], "InvalidParties": ["index"],
        "InvalidText": ["place"], "TooLarge": ["limit"], "Clash": ["parties"],
    },
    "clashsize.kinds": {
        "is_kind": ["value"], "is_book": ["value"], "is_fraction": ["value"], "is_rules": ["book", "value"],
        "is_world": ["book", "value"], "is_point": ["book", "value"], "product": ["book", "numbers", "point"],
        "obeys": ["book", "rules", "point"], "is_in": ["book", "world", "point"], "rank": ["book"],
        "world_of": ["book", "rules"], "opposites": ["book"], "mixed": ["book", "matrix"],
        "beside": ["book", "other_book"],
    },
    "clashsize.knots": {
        "knots": ["book"], "knot_numbers": ["book"], "clash_size": ["book"], "is_knot": ["book", "value"],
        "greatest_knot": ["book"], "knots_with": ["book", "number"],
    },
}


class Interface(unittest.TestCase):
    def test_names_are_defined_in_their_files(self):
        for name, members in INTERFACE.items():
            module = importlib.import_module(name)
            for member in members:
                self.assertEqual(getattr(module, member).__module__, name, member)

    def test_parameters(self):
        for name, members in INTERFACE.items():
            module = importlib.import_module(name)
            for member, parameters in members.items():
                if parameters is not None:
                    found = inspect.signature(getattr(module, member)).parameters
                    self.assertEqual(list(found), parameters, member)
                    self.assertEqual({item.kind for item in found.values()},
                                     {inspect.Parameter.POSITIONAL_OR_KEYWORD}, member)
                    self.assertEqual({item.default for item in found.values()}, {inspect.Parameter.empty}, member)


if __name__ == "__main__":
    unittest.main()
