"""Promise 15, with 3: the errors, what they stand under, and their fields."""

import inspect
import unittest

from clashsize import errors

FIELDS = {
    "InvalidRules": "index", "InvalidRanges": "index", "InvalidParties": "index", "InvalidText": "place",
    "TooLarge": "limit", "Clash": "parties",
}
PLAIN = [
    "InvalidBook", "InvalidKind", "InvalidNumbers", "InvalidNumber", "InvalidPoint", "InvalidWorld", "InvalidKnot",
    "InvalidCross", "InvalidFirmness", "InvalidSpeeds", "InvalidFraction", "InvalidMatrix", "InvalidArrows",
    "InvalidFan", "InvalidHidden", "InvalidSight", "InvalidParty", "InvalidCommand", "NoKnot", "NoWay", "NoPoints",
    "NoInside", "Endless", "NotClosed", "Undecided", "NothingToUndo",
]


class Errors(unittest.TestCase):
    def test_rule_error_stands_under_value_error(self):
        self.assertEqual(errors.RuleError.__bases__, (ValueError,))
        self.assertEqual(str(errors.RuleError("why")), "why")

    def test_each_error_stands_directly_under_rule_error(self):
        for name in list(FIELDS) + PLAIN:
            with self.subTest(name=name):
                self.assertEqual(getattr(errors, name).__bases__, (errors.RuleError,))

    def test_there_are_no_other_errors(self):
        found = [name for name, value in vars(errors).items() if inspect.isclass(value)]
        self.assertEqual(sorted(found), sorted(list(FIELDS) + PLAIN + ["RuleError"]))

    def test_each_error_is_defined_in_this_file(self):
        for name in list(FIELDS) + PLAIN + ["RuleError"]:
            self.assertEqual(getattr(errors, name).__module__, "clashsize.errors", name)

    def test_a_field_is_stored_under_its_name(self):
        for name, field in FIELDS.items():
            for value in (0, 7, 10 ** 40, None, [], [0, 2], (0, 2)):
                with self.subTest(name=name, value=value):
                    self.assertEqual(getattr(getattr(errors, name)(value), field), value)
                    self.assertEqual(getattr(getattr(errors, name)(**{field: value}), field), value)

    def test_an_error_with_a_field_needs_it(self):
        for name in FIELDS:
            with self.assertRaises(TypeError, msg=name):
                getattr(errors, name)()

    def test_an_error_with_a_field_has_its_own_constructor(self):
        for name in FIELDS:
            self.assertIn("__init__", vars(getattr(errors, name)), name)

    def test_every_other_error_takes_one_string(self):
        for name in PLAIN:
            self.assertEqual(str(getattr(errors, name)("just why")), "just why", name)

    def test_errors_can_be_raised_and_caught_by_each_base(self):
        for name in list(FIELDS) + PLAIN:
            error = getattr(errors, name)("0")
            for base in (type(error), errors.RuleError, ValueError):
                with self.assertRaises(base):
                    raise error

    def test_errors_have_a_message(self):
        for name, field in FIELDS.items():
            self.assertIsInstance(str(getattr(errors, name)(3)), str)
            self.assertNotEqual(str(getattr(errors, name)(**{field: 3})), "", name)

    def test_a_clash_keeps_no_reference_to_the_list(self):
        given = [0, 2]
        clash = errors.Clash(given)
        self.assertEqual(clash.parties, [0, 2])
        given.append(5)
        self.assertEqual(clash.parties, [0, 2])
        self.assertFalse(any(item is given for item in clash.args))


if __name__ == "__main__":
    unittest.main()
