"""leanwebs.errors: all errors, their bases and attributes."""

import inspect
import unittest

import leanwebs.errors
from leanwebs.errors import WebsError
from tests.helper import Case

ERRORS = {
    "BadRatio": (), "BadCount": (), "BadPlace": (), "BadTie": ("number",), "BadPull": ("number",), "BadLot": (),
    "OddLot": (), "BadSaying": (), "BadBundle": (), "BadParting": (), "BadRow": (), "TooMany": ("many", "most"),
    "NotPositive": ("number",), "BelowZero": ("number",), "Apart": (), "UnlikeShapes": (), "BadSpread": ("at",),
    "NotWebs": ("u", "v"), "BadLine": ("number",), "BadStretch": ("number",), "BadRates": (), "BadLaying": ("place",),
    "BadTable": ("at",), "Level": (), "NoTie": ()}


class TestErrors(Case):
    def test_base(self):
        self.assertEqual(WebsError.__bases__, (Exception,))
        self.assertIsInstance(WebsError(), Exception)

    def test_each_error_has_the_one_base_and_its_attributes(self):
        for name, attributes in ERRORS.items():
            with self.subTest(name):
                error = getattr(leanwebs.errors, name)
                self.assertEqual(error.__bases__, (WebsError,))
                self.assertEqual(error.__module__, "leanwebs.errors")
                values = tuple(range(7, 7 + len(attributes)))
                made = error(*values)
                self.assertEqual(vars(made), dict(zip(attributes, values)))
                with self.assertRaises(WebsError) as held:
                    raise made
                self.assertIs(held.exception, made)

    def test_no_attribute_may_be_missing(self):
        for name, attributes in ERRORS.items():
            if attributes:
                with self.subTest(name), self.assertRaises(TypeError):
                    getattr(leanwebs.errors, name)()

    def test_there_are_no_others(self):
        found = [name for name, value in vars(leanwebs.errors).items() if inspect.isclass(value)]
        self.assertEqual(sorted(found), sorted([*ERRORS, "WebsError"]))


if __name__ == "__main__":
    unittest.main()
