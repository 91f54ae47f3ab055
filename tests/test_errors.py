"""Tests of point 3: the exceptions, and that each of them is met."""

import unittest

from solidforms import errors
from solidforms.convex import halves
from solidforms.desks import Desk
from solidforms.forms import form, inside
from solidforms.moves import moves
from solidforms.sections import along, section
from solidforms.texts import parse_solid
from solidforms.volumes import box, volume
from tests.samples import B, HALF, deep

NAMES = (
    "InvalidSolid", "InvalidPoint", "InvalidAxis", "InvalidLevel", "InvalidText", "OnFace",
    "NoBounds", "NotConvex", "Blank", "TooMany", "NothingToUndo",
)


class TestErrors(unittest.TestCase):

    def test_the_base_is_a_value_error(self):
        self.assertEqual(errors.SolidError.__bases__, (ValueError,))

    def test_each_is_a_direct_subclass(self):
        for name in NAMES:
            with self.subTest(name):
                found = getattr(errors, name)
                self.assertEqual(found.__bases__, (errors.SolidError,))
                self.assertEqual(found.__name__, name)
                self.assertEqual(found.__module__, "solidforms.errors")

    def test_none_is_a_subclass_of_another_one(self):
        for name in NAMES:
            for other in NAMES:
                with self.subTest(name=name, other=other):
                    known = issubclass(getattr(errors, name), getattr(errors, other))
                    self.assertEqual(known, name == other)

    def test_there_are_no_others(self):
        found = [name for name in vars(errors) if not name.startswith("_")]
        self.assertEqual(sorted(found), sorted((*NAMES, "SolidError")))

    def test_they_can_be_raised_and_caught(self):
        for name in NAMES:
            with self.subTest(name), self.assertRaises(errors.SolidError):
                raise getattr(errors, name)("why")

    def test_each_is_met_by_some_call(self):
        zero = (0, 1)
        for name, calls in {
            "InvalidSolid": [(form, None), (Desk, 5), (Desk(B).add, ""), (moves, B, ()), (halves, ("half",))],
            "InvalidPoint": [(inside, B, zero), (along, B, (0, 0, 0), 0)],
            "InvalidAxis": [(section, B, 3, zero), (along, B, (zero, zero, zero), True)],
            "InvalidLevel": [(section, B, 0, (2, 2))],
            "InvalidText": [(parse_solid, "box"), (parse_solid, None)],
            "OnFace": [(inside, B, (zero, zero, zero)), (section, B, 0, zero), (along, B, (zero, zero, zero), 0)],
            "NoBounds": [(volume, HALF), (moves, HALF, B), (Desk, HALF), (Desk(B).add, HALF)],
            "NotConvex": [(halves, ("not", B)), (halves, ("cut", B, B))],
            "Blank": [(box, ("cut", B, B)), (moves, B, ("cut", B, B))],
            "TooMany": [(Desk(B).cut, deep(12))],
            "NothingToUndo": [(Desk(B).undo,), (Desk(B).redo,)],
        }.items():
            for call, *arguments in calls:
                with self.subTest(name=name, call=call), self.assertRaises(ValueError) as caught:
                    call(*arguments)
                self.assertIs(type(caught.exception), getattr(errors, name))
                self.assertIsInstance(caught.exception, errors.SolidError)
                met = [other for other in NAMES if isinstance(caught.exception, getattr(errors, other))]
                self.assertEqual(met, [name])


if __name__ == "__main__":
    unittest.main()
