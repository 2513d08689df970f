"""The error classes [2] and the heading errors.py."""

import unittest

from strikecore import errors
from strikecore.errors import BadEdit, StrikeError

WITH_ONE = {
    "BadOrder": "pair",
    "RingFound": "points",
    "BadMap": "pair",
    "BadStep": "at",
    "NotStrikable": "at",
    "BadFibre": "point",
    "BadCovering": "pair",
    "UnknownPoint": "point",
    "BadLine": "line",
}

WITHOUT = ("NotAbove", "NotBelow", "NotTaken", "NotContractible", "NotOver", "NothingLeft", "TooLarge")


class TestErrors(unittest.TestCase):
    def test_strike_error_is_a_direct_subclass_of_value_error(self):
        self.assertEqual(StrikeError.__bases__, (ValueError,))
        self.assertEqual(StrikeError.__module__, "strikecore.errors")

    def test_each_error_is_a_direct_subclass_of_strike_error(self):
        for name in [*WITH_ONE, *WITHOUT, "BadEdit"]:
            with self.subTest(name):
                made = getattr(errors, name)
                self.assertEqual(made.__bases__, (StrikeError,))
                self.assertEqual(made.__module__, "strikecore.errors")

    def test_errors_with_one_attribute(self):
        for name, attribute in WITH_ONE.items():
            for value in (None, 0, -3, 10 ** 60, "abc", (), (1, 2), ((1, 2), None)):
                with self.subTest(name, value=value):
                    by_place = getattr(errors, name)(value)
                    by_name = getattr(errors, name)(**{attribute: value})
                    self.assertEqual(vars(by_place), {attribute: value})
                    self.assertEqual(vars(by_name), {attribute: value})

    def test_bad_edit(self):
        for kind, pair in (("under", None), ("below", (1, 0)), (None, 3)):
            for made in (BadEdit(kind, pair), BadEdit(kind=kind, pair=pair), BadEdit(kind, pair=pair)):
                self.assertEqual(made.kind, kind)
                self.assertEqual(made.pair, pair)

    def test_errors_without_attributes(self):
        for name in WITHOUT:
            with self.subTest(name):
                made = getattr(errors, name)()
                self.assertEqual(vars(made), {})

    def test_errors_are_caught_as_strike_error_and_value_error(self):
        for name in [*WITH_ONE, *WITHOUT]:
            arguments = (None,) if name in WITH_ONE else ()
            with self.assertRaises(StrikeError):
                raise getattr(errors, name)(*arguments)
            with self.assertRaises(ValueError):
                raise getattr(errors, name)(*arguments)

    def test_arguments_are_needed(self):
        for name in WITH_ONE:
            with self.assertRaises(TypeError):
                getattr(errors, name)()
        with self.assertRaises(TypeError):
            BadEdit("under")
