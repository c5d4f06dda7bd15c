"""Promise 3: the errors, their attributes and what they stand under."""

import unittest

from graftbook import errors
from tests.samples import nested

# More figures than Python turns into a string.
HUGE = 10 ** 5000

ATTRIBUTES = {
    "InvalidForest": ("value",), "InvalidPlot": ("value",), "InvalidPrices": ("value",),
    "InvalidMatching": ("value",), "InvalidScript": ("value",), "InvalidTable": ("value",),
    "InvalidClaim": ("value",), "InvalidNumber": ("value",), "InvalidPath": ("path",),
    "InvalidText": ("text", "at"), "Undefined": ("what",), "Refusal": ("deed", "reason"),
    "Clash": ("deed", "other"), "Refused": ("claim",), "InvalidCommand": ("line", "at"),
    "UnknownName": ("name",), "NothingToUndo": ("deed",),
}


class Errors(unittest.TestCase):
    def test_each_stands_right_under_graft_error(self):
        self.assertEqual(errors.GraftError.__bases__, (ValueError,))
        for name in ATTRIBUTES:
            self.assertEqual(getattr(errors, name).__bases__, (errors.GraftError,), name)

    def test_no_other_classes(self):
        found = [name for name, thing in vars(errors).items() if isinstance(thing, type)]
        self.assertEqual(sorted(found), sorted(list(ATTRIBUTES) + ["GraftError"]))
        for name in found:
            self.assertEqual(getattr(errors, name).__module__, "graftbook.errors")

    def test_attributes_by_position_and_by_name(self):
        for name, attributes in ATTRIBUTES.items():
            values = [("some", k) for k in range(len(attributes))]
            by_name = dict(zip(attributes, values))
            for error in (getattr(errors, name)(*values), getattr(errors, name)(**by_name)):
                for attribute, value in by_name.items():
                    self.assertIs(getattr(error, attribute), value, name)

    def test_any_value_may_be_kept(self):
        for value in (None, True, [], [[None]], HUGE, nested(60)):
            for name, attributes in ATTRIBUTES.items():
                error = getattr(errors, name)(*[value] * len(attributes))
                with self.assertRaises(errors.GraftError) as caught:
                    raise error
                for attribute in attributes:
                    self.assertIs(getattr(caught.exception, attribute), value)
