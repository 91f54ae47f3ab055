"""Tests of points 1 (a), 3 and 6: same, is_within and parting."""

import random
import unittest

from solidforms.errors import InvalidSolid
from solidforms.forms import form, inside
from solidforms.likeness import is_within, parting, same
from tests.samples import B, HALF, TEXTS, WRONG_VALUES, deep, nested, packed_solid, slow_planes, wide
from tests.space import holds, samples, slow_parting

NOTHING = ("cut", B, B)
SPACE = ("either", B, ("not", B))
CUBE = ("box", (0, 0, 0), (1, 1, 1))
SLANT = ("half", 1, 1, 1, 0)


def upright(axis, level):
    """Return the half space below a level of an axis."""
    return ("half", *[int(k == axis) for k in range(3)], level)


class LikenessCase(unittest.TestCase):

    def assert_alike(self, first, second):
        for solid, other in ((first, second), (second, first)):
            self.assertIs(same(solid, other), True)
            self.assertIs(is_within(solid, other), True)
            self.assertIsNone(parting(solid, other))

    def assert_parted(self, solid, other, x, y, z):
        self.assertIs(same(solid, other), False)
        self.assertIs(same(other, solid), False)
        self.assertEqual(parting(solid, other), (x, y, z))
        self.assertEqual(parting(other, solid), (x, y, z))


class TestSame(LikenessCase):

    def test_alike(self):
        for first, second in (
            (B, B), (HALF, HALF), (B, ("not", ("not", B))), (HALF, ("half", 2, 0, 0, 4)),
            (("not", HALF), ("half", -1, 0, 0, -2)), (NOTHING, ("both", HALF, ("not", HALF))),
            (SPACE, ("not", NOTHING)), (("both", HALF, ("half", -1, 0, 0, -2)), NOTHING),
            (("cut", B, ("half", 0, 0, 1, 0)), B), (("either", B, NOTHING), B), (("both", B, SPACE), B),
            (("turned", 47, ("turned", 47, SLANT)), SLANT),
            (("turned", 24, ("turned", 24, ("turned", 24, B))), B),
            (("moved", (0, 1, -1), SLANT), SLANT), (("moved", (3, 0, 0), SLANT), ("half", 1, 1, 1, 3)),
            (("cut", HALF, SLANT), ("not", ("either", ("not", HALF), SLANT))),
            (("either", ("cut", B, SLANT), ("both", B, SLANT)), B),
        ):
            with self.subTest(first):
                self.assert_alike(first, second)

    def test_each_kind(self):
        for solid, _ in TEXTS:
            self.assert_alike(solid, solid)
            self.assertIs(same(solid, ("not", solid)), False)
            self.assertIs(is_within(solid, ("not", solid)), False)


class TestWithin(LikenessCase):

    def test_one_way(self):
        for solid, other in (
            (B, HALF), (NOTHING, B), (B, SPACE), (NOTHING, SPACE), (HALF, ("half", 1, 0, 0, 3)),
            (CUBE, B), (("cut", B, CUBE), B), (B, ("either", B, SLANT)), (("both", B, SLANT), B),
            (("both", SLANT, HALF), SLANT), (("half", 1, 1, 1, -1), SLANT),
            (("moved", (0, 1, 1), CUBE), B), (("cut", SLANT, HALF), ("not", HALF)),
            (("box", (1, 1, 1), (2, 2, 2)), ("cut", ("box", (0, 0, 0), (3, 3, 3)), CUBE)),
        ):
            with self.subTest(solid):
                self.assertIs(is_within(solid, other), True)
                self.assertIs(is_within(other, solid), False)
                self.assertIs(is_within(("not", other), ("not", solid)), True)

    def test_neither_way(self):
        for solid, other in (
            (B, ("moved", (0, 1, 0), B)), (B, ("moved", (5, 0, 0), B)), (HALF, ("not", HALF)), (B, ("not", B)),
            (SLANT, HALF), (B, SLANT), (B, ("not", CUBE)), (CUBE, ("moved", (1, 0, 0), CUBE)),
        ):
            with self.subTest(solid):
                self.assertIs(is_within(solid, other), False)
                self.assertIs(is_within(other, solid), False)

    def test_what_lies_in_planes_alone_does_not_count(self):
        self.assertIs(is_within(("both", HALF, ("half", -1, 0, 0, -2)), NOTHING), True)
        self.assertIs(is_within(("both", B, ("half", 0, 0, 1, 0)), ("moved", (9, 9, 9), B)), True)
        self.assertIs(is_within(SPACE, ("either", HALF, ("half", -1, 0, 0, -2))), True)


class TestParting(LikenessCase):

    def test_example(self):
        self.assertEqual(parting(B, ("half", 0, 0, 1, 9)), ((-1, 1), (-1, 1), (-1, 1)))

    def test_no_planes_are_left(self):
        self.assert_parted(NOTHING, SPACE, (0, 1), (0, 1), (0, 1))
        needless = ("either", HALF, ("not", HALF))
        self.assert_parted(("cut", SLANT, SLANT), needless, (0, 1), (0, 1), (0, 1))

    def test_a_point_on_needless_planes(self):
        # All planes of both go through the point, but none carries a face.
        zero = ("either", upright(0, 0), ("not", upright(0, 0)))
        other = ("both", ("both", SLANT, ("not", SLANT)), upright(1, 0))
        self.assert_parted(zero, other, (0, 1), (0, 1), (0, 1))

    def test_one_solid_without_faces(self):
        self.assert_parted(HALF, NOTHING, (1, 1), (0, 1), (0, 1))
        self.assert_parted(HALF, SPACE, (3, 1), (0, 1), (0, 1))
        self.assert_parted(SLANT, NOTHING, (0, 1), (0, 1), (-1, 1))
        self.assert_parted(SLANT, SPACE, (0, 1), (0, 1), (1, 1))
        self.assert_parted(B, NOTHING, (1, 2), (1, 1), (3, 2))
        self.assert_parted(B, SPACE, (-1, 1), (-1, 1), (-1, 1))

    def test_upright_half_spaces(self):
        for axis in range(3):
            point = [(0, 1)] * 3
            point[axis] = (5, 2)
            self.assert_parted(upright(axis, 2), upright(axis, 3), *point)
            self.assert_parted(("not", upright(axis, 2)), ("not", upright(axis, 3)), *point)
            point[axis] = (1, 1)
            self.assert_parted(upright(axis, 2), ("not", upright(axis, 2)), *point)
            self.assert_parted(upright(axis, 2), ("not", upright(axis, 3)), *point)

    def test_places_of_x(self):
        # Planes with b and c 0 give the places 2 and 5: the middles are 1, 7/2 and 6.
        late = ("either", B, ("half", -1, 0, 0, -5))
        self.assert_parted(HALF, ("both", HALF, ("half", -1, 0, 0, -2)), (1, 1), (0, 1), (0, 1))
        self.assert_parted(HALF, ("either", HALF, ("half", -1, 0, 0, -5)), (6, 1), (0, 1), (0, 1))
        self.assert_parted(B, late, (6, 1), (-1, 1), (-1, 1))
        # The places are 0, 1 and 4; what differs lies from 1 to 4.
        self.assert_parted(B, ("box", (0, 0, 0), (4, 2, 3)), (5, 2), (1, 1), (3, 2))

    def test_lines_with_one_x(self):
        # x + y = 0 and x - y = 0 cross where x is 0: the middles are -1 and 1.
        first, second = ("half", 1, 1, 0, 0), ("half", 1, -1, 0, 0)
        self.assert_parted(first, second, (-1, 1), (-2, 1), (0, 1))
        # A wedge to greater x, of which nothing lies at less x.
        wedge = ("both", ("not", first), ("not", second))
        self.assert_parted(wedge, NOTHING, (1, 1), (0, 1), (0, 1))
        # The lines of x + z = 1 and x - z = 4 have x 5/2 and z -3/2.
        wedge = ("both", ("half", -1, 0, -1, -1), ("half", -1, 0, 1, -4))
        self.assert_parted(wedge, NOTHING, (7, 2), (0, 1), (-3, 2))

    def test_points_of_three_planes(self):
        # The planes cross at (0, 0, 0) alone, and what differs lies behind it.
        cone = ("both", ("half", -1, 1, 0, 0), ("both", ("half", -1, 0, 1, 0), ("half", -1, -1, -1, 0)))
        self.assert_parted(cone, NOTHING, (1, 1), (-1, 2), (1, 4))
        self.assert_parted(("moved", (2, 0, 0), cone), NOTHING, (3, 1), (-1, 2), (1, 4))

    def test_a_solid_that_begins_again_behind_a_gap(self):
        # All edges of the cone lead from its first point, at x 0, to greater x; there it is cut in two.
        cone = ("both", ("half", -1, 3, -1, 0), ("both", ("half", 2, 1, 1, 0), ("half", -3, -3, -1, 0)))
        for solid in (cone, ("turned", 1, cone), ("turned", 2, cone), ("turned", 3, cone), ("turned", 8, cone)):
            for begin, end, x in ((1, 2, (1, 2)), (0, 1, (2, 1)), (-1, 1, (2, 1)), (2, 5, (1, 1))):
                parts = ("either", upright(0, begin), ("not", upright(0, end)))
                cut = ("both", solid, parts)
                point = slow_parting(cut, NOTHING)
                self.assertEqual(point[0], x)
                self.assert_parted(cut, NOTHING, *point)

    def test_places_of_y_and_z(self):
        self.assert_parted(B, ("cut", B, CUBE), (1, 2), (1, 2), (1, 2))
        self.assert_parted(B, ("cut", B, ("moved", (0, 1, 2), CUBE)), (1, 2), (3, 2), (5, 2))
        self.assert_parted(B, ("cut", B, ("box", (0, 1, 0), (1, 2, 1))), (1, 2), (3, 2), (1, 2))
        # At x 0 the lines are y + z = 0 and y + z = 1, which give no places of y.
        self.assert_parted(SLANT, ("half", 1, 1, 1, 1), (0, 1), (0, 1), (1, 2))
        # At x 0 the lines y + z = 0 and y - z = 0 give the place 0 of y, and at y -1 the places -1 and 1 of z.
        self.assert_parted(("half", 0, 1, 1, 0), ("half", 0, 1, -1, 0), (0, 1), (-1, 1), (-2, 1))
        both = ("both", ("half", 0, 1, 1, 0), ("half", 0, 1, -1, 0))
        self.assert_parted(both, NOTHING, (0, 1), (-1, 1), (0, 1))
        self.assert_parted(("not", both), SPACE, (0, 1), (-1, 1), (0, 1))

    def test_planes_without_faces_give_no_places(self):
        needless = ("both", upright(0, 2), ("either", upright(0, 2), SLANT))
        self.assert_parted(needless, NOTHING, (1, 1), (0, 1), (0, 1))
        self.assert_parted(("both", HALF, upright(0, 3)), upright(0, 5), (7, 2), (0, 1), (0, 1))

    def test_slanted_planes(self):
        # The place of x is where the three planes x + y + z = 0, y = 1 and z = 2 cross: -3.
        corner = ("both", upright(1, 1), upright(2, 2))
        # At x -4 the places of y are 1 and 2; at y 0, those of z are 2 and 4.
        self.assert_parted(SLANT, corner, (-4, 1), (0, 1), (3, 1))
        # What differs lies where y > 1 or z > 2 up to x -3, and at greater x too.
        self.assert_parted(("both", SLANT, corner), ("both", ("not", SLANT), corner), (-4, 1), (0, 1), (1, 1))
        # The corner cut off by the slanted plane lies at x > -3 alone.
        self.assert_parted(("both", SLANT, corner), corner, (-2, 1), (1, 2), (7, 4))


class TestAgainstPoints(LikenessCase):

    def pairs(self):
        chance = random.Random(61)
        for k in range(120):
            solid = packed_solid(chance, 5)
            other = packed_solid(chance, 4)
            if k % 4 == 1:
                other = (chance.choice(("both", "either", "cut")), solid, other)
            if k % 4 == 2:
                other = ("either", ("cut", solid, other), ("both", solid, other))
            if k % 4 == 3:
                frame = ("box", (-2, -2, -2), (2, 2, 2))
                solid, other = ("both", frame, solid), ("both", frame, other)
            if len(slow_planes(("both", solid, other))) <= 9:
                yield solid, other

    def test_random_pairs(self):
        counts = {}
        for solid, other in self.pairs():
            planes = sorted(slow_planes(solid) | slow_planes(other))
            held = [(holds(solid, point), holds(other, point)) for point, _ in samples(planes)]
            alike = all(first == second for first, second in held)
            within = all(second for first, second in held if first)
            self.assertIs(same(solid, other), alike)
            self.assertIs(is_within(solid, other), within)
            self.assertIs(is_within(other, solid), all(first for first, second in held if second))
            point = parting(solid, other)
            self.assertEqual(point, slow_parting(solid, other), (solid, other))
            # Guarantee (a).
            self.assertEqual(form(solid) == form(other), point is None)
            if point is not None:
                self.assertNotEqual(inside(solid, point), inside(other, point))
            for answer in (("same", alike), ("within", within)):
                counts[answer] = counts.get(answer, 0) + 1
        self.assertGreater(min(counts.values()), 4)
        self.assertEqual(len(counts), 4)


class TestErrors(unittest.TestCase):

    def test_what_is_not_a_solid(self):
        for value in (*WRONG_VALUES, deep(13), wide(41), nested(lambda x: [x], 30, HALF), ("turned", 48, HALF)):
            for function in (same, is_within, parting):
                with self.subTest(function.__name__):
                    for pair in ((value, HALF), (HALF, value), (value, value), (value, None)):
                        with self.assertRaises(InvalidSolid):
                            function(*pair)


if __name__ == "__main__":
    unittest.main()
