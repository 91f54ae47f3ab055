"""Tests of points 1 (c), 3 and 7: bounds, volumes and boxes of solids."""

import random
import unittest
from fractions import Fraction

from solidforms.errors import Blank, InvalidSolid, NoBounds
from solidforms.forms import is_blank
from solidforms.solids import is_solid
from solidforms.volumes import box, differing_volume, is_bounded, volume
from tests.samples import B, HALF, WRONG_VALUES, deep, nested, packed_solid, slow_planes, turned_point, wide
from tests.space import number, slow_bounded, slow_box, slow_volume, told, told_point

CUBE = ("box", (0, 0, 0), (1, 1, 1))
FRAME = ("box", (-2, -2, -2), (2, 2, 2))
NOTHING = ("cut", B, B)
SPACE = ("either", B, ("not", B))
CORNER = ("both", ("half", -1, 0, 0, 0), ("both", ("half", 0, -1, 0, 0), ("half", 0, 0, -1, 0)))
TETRA = ("both", CORNER, ("half", 1, 1, 1, 1))
EIGHT = ("both", ("both", ("both", ("half", 1, 1, 1, 1), ("half", -1, 1, 1, 1)),
                  ("both", ("half", 1, -1, 1, 1), ("half", 1, 1, -1, 1))),
         ("both", ("both", ("half", -1, -1, 1, 1), ("half", -1, 1, -1, 1)),
          ("both", ("half", 1, -1, -1, 1), ("half", -1, -1, -1, 1))))
SKEW = ("both", ("both", ("both", ("half", 1, 1, 0, 1), ("half", -1, -1, 0, 1)),
                 ("both", ("half", 1, -1, 0, 1), ("half", -1, 1, 0, 1))),
        ("both", ("half", 0, 1, 1, 1), ("half", 0, -1, -1, 1)))

BOUNDED = (
    B, CUBE, FRAME, NOTHING, TETRA, EIGHT, SKEW, ("not", ("not", B)), ("cut", B, HALF), ("both", B, SPACE),
    ("moved", (9, 9, 9), TETRA), ("turned", 31, TETRA), ("either", B, SKEW), ("cut", FRAME, SKEW),
    ("not", SPACE), ("not", ("either", ("not", B), CUBE)), ("both", HALF, ("half", -1, 0, 0, -2)),
)
UNBOUNDED = (
    HALF, ("not", HALF), ("not", B), SPACE, ("not", NOTHING), CORNER, ("not", TETRA), ("either", B, HALF),
    ("cut", HALF, B), ("both", HALF, ("half", -1, 0, 0, -1)), ("cut", SPACE, FRAME),
    ("both", ("both", HALF, ("not", CORNER)), ("half", -1, 0, 0, 0)),
    ("both", ("both", ("half", 1, 1, 0, 1), ("half", 1, -1, 0, 1)), ("half", -1, 0, 0, 0)),
    ("either", B, ("both", CORNER, ("moved", (5, 5, 5), CORNER))),
)


class TestBounds(unittest.TestCase):

    def test_with_bounds(self):
        for solid in BOUNDED:
            with self.subTest(solid):
                self.assertIs(is_bounded(solid), True)

    def test_without_bounds(self):
        for solid in UNBOUNDED:
            with self.subTest(solid):
                self.assertIs(is_bounded(solid), False)
                for function in (volume, box):
                    with self.assertRaises(NoBounds):
                        function(solid)

    def test_against_points(self):
        chance = random.Random(71)
        counts = {True: 0, False: 0}
        for _ in range(150):
            solid = packed_solid(chance, 6)
            answer = slow_bounded(solid)
            self.assertIs(is_bounded(solid), answer, solid)
            counts[answer] += 1
        self.assertGreater(min(counts.values()), 20)


class TestVolume(unittest.TestCase):

    def test_example(self):
        self.assertEqual(volume(("both", B, ("half", 1, 1, 1, 2))), (7, 6))

    def test_known_volumes(self):
        for solid, answer in (
            (B, (6, 1)), (CUBE, (1, 1)), (FRAME, (64, 1)), (TETRA, (1, 6)), (EIGHT, (4, 3)), (SKEW, (4, 1)), (NOTHING, (0, 1)),
            (("box", (-9, -9, -9), (9, 9, 9)), (5832, 1)), (("cut", FRAME, CUBE), (63, 1)),
            (("both", HALF, ("half", -1, 0, 0, -2)), (0, 1)), (("cut", B, CUBE), (5, 1)),
            (("either", B, ("moved", (0, 1, 0), B)), (9, 1)), (("either", CUBE, ("moved", (1, 1, 1), CUBE)), (2, 1)),
            (("cut", CUBE, TETRA), (5, 6)), (("both", CUBE, ("half", 1, 1, 1, 2)), (5, 6)),
            (("both", CUBE, ("half", 2, 2, 2, 3)), (1, 2)), (("both", CUBE, ("half", 1, 1, 0, 1)), (1, 2)),
            (("both", CUBE, ("half", 3, 2, 0, 1)), (1, 12)), (("both", CUBE, ("half", 0, 0, 3, 1)), (1, 3)),
            (("both", CORNER, ("half", 1, 2, 3, 6)), (6, 1)), (("both", CORNER, ("half", 3, 3, 2, 1)), (1, 108)),
            (("cut", FRAME, SKEW), (60, 1)), (("cut", EIGHT, CORNER), (7, 6)),
        ):
            with self.subTest(solid):
                self.assertEqual(volume(solid), answer)

    def test_cut_in_two(self):
        for solid in (B, TETRA, EIGHT, SKEW, ("either", B, TETRA)):
            for half in (HALF, ("half", 1, 2, 3, 0), ("half", 0, 1, 0, 1), ("half", 2, -3, 1, 1), ("half", 3, 3, 3, 1)):
                pieces = [number(volume((word, solid, half))) for word in ("both", "cut")]
                self.assertEqual(told(sum(pieces)), volume(solid))

    def test_moved_and_turned(self):
        for solid in (B, TETRA, ("cut", B, ("half", 1, 2, 3, 4)), SKEW):
            kept = volume(solid)
            for shift in ((9, 9, 9), (-9, 0, 5), (0, 1, 0)):
                self.assertEqual(volume(("moved", shift, solid)), kept)
                self.assertEqual(volume(("moved", shift, ("turned", 29, solid))), kept)
            for turn in range(48):
                self.assertEqual(volume(("turned", turn, solid)), kept)

    def test_together_and_in_common(self):
        chance = random.Random(72)
        for _ in range(100):
            first, second = [("both", FRAME, packed_solid(chance, 4)) for _ in range(2)]
            pairs = [(word, first, second) for word in ("either", "both")]
            if all(is_solid(pair) for pair in pairs):
                volumes = [number(volume(solid)) for solid in (first, second, *pairs)]
                self.assertEqual(sum(volumes[:2]), sum(volumes[2:]))

    def test_against_slices(self):
        chance = random.Random(73)
        for _ in range(60):
            solid = ("both", FRAME, packed_solid(chance, 4))
            if len(slow_planes(solid)) <= 9:
                self.assertEqual(volume(solid), slow_volume(solid), solid)

    def test_kinds_of_values(self):
        for solid in BOUNDED:
            self.assertEqual([type(x) for x in volume(solid)], [int, int])


class TestBox(unittest.TestCase):

    def test_example(self):
        self.assertEqual(box(B), (((0, 1), (0, 1), (0, 1)), ((1, 1), (2, 1), (3, 1))))

    def test_known_boxes(self):
        third = Fraction(1, 3)
        for solid, low, high in (
            (TETRA, (0, 0, 0), (1, 1, 1)), (EIGHT, (-1, -1, -1), (1, 1, 1)), (FRAME, (-2, -2, -2), (2, 2, 2)),
            (("moved", (1, -2, 3), B), (1, -2, 3), (2, 0, 6)), (("turned", 7, B), (-1, -2, -3), (0, 0, 0)),
            (("cut", B, ("half", 0, 0, 1, 1)), (0, 0, 1), (1, 2, 3)), (("cut", FRAME, CUBE), (-2, -2, -2), (2, 2, 2)),
            (("either", CUBE, ("moved", (-3, 2, 5), CUBE)), (-3, 0, 0), (1, 3, 6)),
            (("both", CORNER, ("half", 1, 2, 3, 1)), (0, 0, 0), (1, Fraction(1, 2), third)),
            (("both", CORNER, ("half", 3, 3, 3, 1)), (0, 0, 0), (third, third, third)),
            (("moved", (-1, -1, -1), ("both", CORNER, ("half", 3, 3, 3, 1))), (-1, -1, -1), (-2 * third,) * 3),
        ):
            with self.subTest(solid):
                self.assertEqual(box(solid), (told_point(low), told_point(high)))

    def test_what_lies_in_planes_alone_does_not_count(self):
        # The other box has one side in common with a half space, and no more.
        sheet = ("both", ("box", (4, 4, 4), (5, 5, 5)), ("half", 1, 0, 0, 4))
        self.assertEqual(box(("either", B, sheet)), box(B))

    def test_turned(self):
        solid = ("both", ("both", CORNER, ("half", 1, 2, 3, 5)), ("half", 0, 0, 1, 1))
        corners = [[number(x) for x in corner] for corner in box(solid)]
        for turn in range(48):
            images = [turned_point(turn, corner) for corner in corners]
            sides = [sorted(row) for row in zip(*images)]
            self.assertEqual(box(("turned", turn, solid)), tuple(told_point(row) for row in zip(*sides)))

    def test_blank(self):
        for solid in (NOTHING, ("not", SPACE), ("both", HALF, ("half", -1, 0, 0, -2)), ("both", B, ("half", 0, 0, 1, 0))):
            with self.subTest(solid), self.assertRaises(Blank):
                box(solid)

    def test_against_corners(self):
        chance = random.Random(74)
        for _ in range(60):
            solid = ("both", FRAME, packed_solid(chance, 3))
            if not is_blank(solid):
                self.assertEqual(box(solid), slow_box(solid), solid)


class TestDifferingVolume(unittest.TestCase):

    def test_known_volumes(self):
        for solid, other, answer in (
            (B, B, (0, 1)), (B, CUBE, (5, 1)), (CUBE, B, (5, 1)), (B, NOTHING, (6, 1)), (NOTHING, NOTHING, (0, 1)),
            (B, ("moved", (0, 1, 0), B), (6, 1)), (CUBE, ("moved", (1, 0, 0), CUBE), (2, 1)), (EIGHT, TETRA, (7, 6)),
            (CUBE, TETRA, (5, 6)), (TETRA, ("turned", 7, TETRA), (1, 3)), (B, ("not", ("not", B)), (0, 1)),
            (TETRA, ("both", CORNER, ("half", 1, 2, 3, 1)), (5, 36)),
        ):
            with self.subTest(solid):
                self.assertEqual(differing_volume(solid, other), answer)

    def test_by_what_both_have_in_common(self):
        chance = random.Random(75)
        for _ in range(40):
            first, second = [("both", FRAME, packed_solid(chance, 3)) for _ in range(2)]
            common = number(slow_volume(("both", first, second)))
            answer = number(volume(first)) + number(volume(second)) - 2 * common
            self.assertEqual(differing_volume(first, second), told(answer))
            self.assertEqual(differing_volume(second, first), told(answer))

    def test_many_planes(self):
        other = ("both", ("both", ("half", 3, 2, 1, 2), ("half", -3, 2, 1, 3)),
                 ("both", ("both", ("half", 1, -3, 2, 3), ("half", -1, -2, 3, 2)), ("half", 1, 1, -3, 4)))
        both = number(slow_volume(("both", EIGHT, other)))
        answer = Fraction(4, 3) + number(volume(other)) - 2 * both
        self.assertEqual(differing_volume(EIGHT, other), told(answer))

    def test_each_error_in_turn(self):
        for bad, good in ((None, B), (("half", 0, 0, 0, 1), CUBE), (deep(13), TETRA)):
            for first, second, error in (
                (bad, bad, InvalidSolid), (bad, good, InvalidSolid), (bad, HALF, InvalidSolid),
                (good, bad, InvalidSolid), (HALF, bad, NoBounds), (HALF, good, NoBounds), (HALF, HALF, NoBounds),
                (good, HALF, NoBounds), (SPACE, good, NoBounds), (good, SPACE, NoBounds),
            ):
                with self.assertRaises(error):
                    differing_volume(first, second)


class TestErrors(unittest.TestCase):

    def test_what_is_not_a_solid(self):
        for value in (*WRONG_VALUES, deep(13), wide(41), nested(lambda x: [x], 30, HALF), ("turned", 48, B)):
            for function in (is_bounded, volume, box):
                with self.subTest(function.__name__), self.assertRaises(InvalidSolid):
                    function(value)
            with self.assertRaises(InvalidSolid):
                differing_volume(value, B)
            with self.assertRaises(InvalidSolid):
                differing_volume(B, value)


if __name__ == "__main__":
    unittest.main()
