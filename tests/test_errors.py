"""Tests of point 3: the exceptions."""

import unittest

from solidforms import errors

NAMES = (
    "InvalidSolid", "InvalidPoint", "InvalidAxis", "InvalidLevel", "InvalidText", "OnFace",
    "NoBounds", "NotConvex", "Blank", "TooMany", "NothingToUndo",
)


class TestErrors(unittest.TestCase):

    def test_the_base_is_a_value_error(self):
        self.assertEqual(errors.SolidError.__bases__, (ValueError,))

    def test_each_is_a_direct_subclass(self):
        for name in NAMES:
            with self.subTest(name):
                found = getattr(errors, name)
                self.assertEqual(found.__bases__, (errors.SolidError,))
                self.assertEqual(found.__name__, name)
                self.assertEqual(found.__module__, "solidforms.errors")

    def test_none_is_a_subclass_of_another_one(self):
        for name in NAMES:
            for other in NAMES:
                with self.subTest(name=name, other=other):
                    known = issubclass(getattr(errors, name), getattr(errors, other))
                    self.assertEqual(known, name == other)

    def test_there_are_no_others(self):
        found = [name for name in vars(errors) if not name.startswith("_")]
        self.assertEqual(sorted(found), sorted((*NAMES, "SolidError")))

    def test_they_can_be_raised_and_caught(self):
        for name in NAMES:
            with self.subTest(name), self.assertRaises(errors.SolidError):
                raise getattr(errors, name)("why")


if __name__ == "__main__":
    unittest.main()
