"""0.4: the classes of the refusals."""

import unittest

from onceeach import errors
from onceeach.errors import NoList, NoText, OnceError, TooGreat

PLAIN = ["NoBound", "NoPrime", "NoPower", "NoNumber", "NoFunction", "NoPoly", "Apart", "NoRow"]
WITH_FIELDS = ["NoList", "NoText", "TooGreat"]


class TestErrors(unittest.TestCase):

    def test_above(self):
        self.assertEqual((ValueError,), OnceError.__bases__)

    def test_each_straight_under_once_error(self):
        for name in PLAIN + WITH_FIELDS:
            self.assertEqual((OnceError,), getattr(errors, name).__bases__, name)

    def test_no_other_classes(self):
        found = [name for name, thing in vars(errors).items() if isinstance(thing, type)]
        self.assertEqual(sorted(PLAIN + WITH_FIELDS + ["OnceError"]), sorted(found))

    def test_plain_ones_are_made_of_nothing_too(self):
        for name in PLAIN:
            with self.assertRaises(OnceError):
                raise getattr(errors, name)()

    def test_fields(self):
        for error in (NoList, NoText):
            for at in (-1, 0, 7):
                self.assertEqual(at, error(at).at)
            self.assertEqual(3, error(at=3).at)
        self.assertEqual((17, 5), (TooGreat(17, 5).many, TooGreat(17, 5).most))
        self.assertEqual((9, 8), (TooGreat(most=8, many=9).many, TooGreat(most=8, many=9).most))
