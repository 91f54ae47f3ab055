"""Tests of points 3 and 8: parts and holes of solids."""

import random
import unittest
from fractions import Fraction
from itertools import product

from solidforms.cells import count_holes, count_parts
from solidforms.errors import InvalidSolid
from solidforms.solids import is_solid
from tests.samples import B, HALF, WRONG_VALUES, deep, joined, nested, packed_solid, wide
from tests.space import holds, slow_pieces

CUBE = ("box", (0, 0, 0), (1, 1, 1))
THREE = ("box", (0, 0, 0), (3, 3, 3))
MIDDLE = ("box", (1, 1, 1), (2, 2, 2))
NOTHING = ("cut", B, B)
SPACE = ("either", B, ("not", B))


def cube(*low):
    return ("box", low, tuple(x + 1 for x in low))


def slab(axis, low, high):
    normal = [int(k == axis) for k in range(3)]
    return ("cut", ("half", *normal, high), ("half", *normal, low))


def pyramid(size):
    """Return one of solids with four sides, each of which lies inside the greater ones."""
    return ("both", ("both", ("half", -1, 0, 0, size), ("half", 0, -1, 0, size)),
            ("both", ("half", 0, 0, -1, size), ("half", 1, 1, 1, size)))


def octants(signs):
    """Return what lies in the octants with these signs."""
    def octant(row):
        halves = [("half", *[-s * int(k == axis) for k in range(3)], 0) for axis, s in enumerate(row)]
        return ("both", halves[0], ("both", halves[1], halves[2]))
    return joined([octant(row) for row in signs])


class CellCase(unittest.TestCase):

    def assert_counts(self, solid, parts, holes):
        self.assertEqual(count_parts(solid), parts, solid)
        self.assertEqual(count_holes(solid), holes, solid)


class TestByHand(CellCase):

    def test_example(self):
        self.assertEqual(count_holes(("cut", THREE, MIDDLE)), 1)
        self.assertEqual(count_parts(("cut", THREE, MIDDLE)), 1)

    def test_plain_solids(self):
        for solid, parts, holes in (
            (B, 1, 0), (("not", B), 1, 1), (HALF, 1, 0), (("not", HALF), 1, 0), (NOTHING, 0, 0), (SPACE, 1, 0),
            (("half", 1, 2, 3, 4), 1, 0), (pyramid(1), 1, 0), (("not", pyramid(1)), 1, 1), (slab(0, 1, 2), 1, 0),
            (("not", slab(0, 1, 2)), 2, 0), (("both", slab(0, 1, 2), slab(1, 1, 2)), 1, 0),
            (("not", ("both", slab(0, 1, 2), slab(1, 1, 2))), 1, 0), (("either", slab(0, 1, 2), slab(1, 1, 2)), 1, 0),
            (("not", ("either", slab(0, 1, 2), slab(1, 1, 2))), 4, 0),
        ):
            self.assert_counts(solid, parts, holes)

    def test_needless_planes_part_nothing(self):
        for half in (("half", 1, 0, 0, 1), ("half", 1, 1, 1, 2), ("half", 3, -2, 1, 0)):
            for solid, parts, holes in ((THREE, 1, 0), (("not", THREE), 1, 1), (HALF, 1, 0), (NOTHING, 0, 0)):
                self.assert_counts(("either", ("both", solid, half), ("cut", solid, half)), parts, holes)

    def test_boxes_that_touch(self):
        for low, parts in (
            ((1, 0, 0), 1), ((0, -1, 0), 1), ((0, 0, 1), 1), ((1, 1, 0), 2), ((-1, 0, 1), 2), ((0, 1, -1), 2),
            ((1, 1, 1), 2), ((-1, 1, -1), 2), ((2, 0, 0), 2), ((2, 1, 0), 2), ((0, 0, 0), 1),
        ):
            pair = ("either", CUBE, cube(*low))
            self.assert_counts(pair, parts, 0)
            # All but the two cubes: each of them is a hole, unless they make one.
            self.assert_counts(("not", pair), 1, parts)

    def test_faces_that_touch_in_a_part(self):
        self.assert_counts(("either", THREE, ("box", (3, 1, 1), (4, 2, 2))), 1, 0)
        self.assert_counts(("either", THREE, ("box", (3, 2, 2), (4, 4, 4))), 1, 0)
        self.assert_counts(("either", THREE, ("box", (3, 3, 1), (4, 4, 2))), 2, 0)

    def test_slanted_solids_that_touch(self):
        below = ("both", CUBE, ("half", 1, 1, 1, 1))
        above = ("both", CUBE, ("half", -1, -1, -1, -2))
        self.assert_counts(("either", below, above), 2, 0)
        # What is left between them hangs together, and goes on outside.
        self.assert_counts(("cut", CUBE, ("either", below, above)), 1, 0)
        # Two halves of a cube hang together; two wedges have an edge in common; two cones a corner.
        self.assert_counts(("either", ("both", CUBE, ("half", 1, 1, 0, 1)), ("both", CUBE, ("half", -1, -1, 0, -1))), 1, 0)
        wedge = ("both", ("half", 1, 1, 0, 0), ("half", 1, -1, 0, 0))
        self.assert_counts(("either", wedge, ("turned", 4, wedge)), 2, 0)
        cone = ("both", wedge, ("both", ("half", 1, 0, 1, 0), ("half", 1, 0, -1, 0)))
        self.assert_counts(("either", cone, ("turned", 4, cone)), 2, 0)
        self.assert_counts(("not", ("either", cone, ("turned", 4, cone))), 1, 0)

    def test_octants(self):
        even = [signs for signs in product((1, -1), repeat=3) if signs[0] * signs[1] * signs[2] > 0]
        self.assert_counts(octants(even), 4, 0)
        self.assert_counts(("not", octants(even)), 4, 0)
        self.assert_counts(octants([(1, 1, 1), (-1, -1, -1)]), 2, 0)
        self.assert_counts(octants([(1, 1, 1), (-1, -1, 1)]), 2, 0)
        self.assert_counts(octants([(1, 1, 1), (1, -1, 1)]), 1, 0)
        self.assert_counts(("not", octants([(1, 1, 1), (-1, -1, -1)])), 1, 0)

    def test_holes(self):
        tunnel = ("box", (1, 1, 0), (2, 2, 3))
        dent = ("box", (1, 1, 1), (2, 2, 3))
        self.assert_counts(("cut", THREE, tunnel), 1, 0)
        self.assert_counts(("cut", THREE, dent), 1, 0)
        # Open to the outside in an edge or a corner alone, a hole stays one.
        self.assert_counts(("cut", ("cut", THREE, MIDDLE), cube(0, 0, 1)), 1, 1)
        self.assert_counts(("cut", ("cut", THREE, MIDDLE), cube(0, 0, 0)), 1, 1)
        self.assert_counts(("cut", ("cut", THREE, MIDDLE), cube(0, 1, 1)), 1, 0)

    def test_several_holes(self):
        for outer in (("half", 0, 0, 1, 9), ("half", -1, -1, -1, 9)):
            for second, holes in (((3, 1, 1), 2), ((2, 1, 1), 1), ((2, 2, 1), 2), ((2, 2, 2), 2), ((1, 1, 1), 1)):
                self.assert_counts(("cut", ("cut", outer, MIDDLE), cube(*second)), 1, holes)

    def test_parts_within_holes(self):
        shell = ("cut", pyramid(3), pyramid(2))
        self.assert_counts(shell, 1, 1)
        self.assert_counts(("either", shell, pyramid(1)), 2, 1)
        self.assert_counts(("not", shell), 2, 1)
        self.assert_counts(("not", ("either", shell, pyramid(1))), 2, 2)

    def test_a_hole_with_a_box_on_its_wall(self):
        hollow = ("cut", ("half", 0, 0, 1, 9), ("box", (1, 1, 1), (4, 4, 4)))
        self.assert_counts(("either", hollow, ("box", (1, 1, 1), (4, 4, 2))), 1, 1)
        # A floor across the hole makes two of it.
        self.assert_counts(("either", ("cut", THREE, ("box", (1, 1, 1), (2, 2, 2))), ("box", (0, 0, 1), (3, 3, 2))), 1, 0)
        self.assert_counts(("either", hollow, ("box", (1, 1, 2), (4, 4, 3))), 1, 2)

    def test_slabs(self):
        slabs = joined([slab(2, k, k + 1) for k in range(-6, 6, 2)])
        self.assert_counts(slabs, 6, 0)
        self.assert_counts(("not", slabs), 7, 0)
        frame = ("both", ("both", slab(0, 0, 1), slab(1, 0, 1)), joined([slab(2, k, k + 1) for k in (0, 2, 4, 6)]))
        self.assert_counts(frame, 4, 0)
        self.assert_counts(("not", frame), 1, 4)

    def test_kinds_of_values(self):
        for count in (count_parts, count_holes):
            self.assertIs(type(count(B)), int)
            self.assertIs(type(count(NOTHING)), int)


class TestAgainstOthers(CellCase):

    def test_against_unit_cubes(self):
        chance = random.Random(81)
        found = set()
        for _ in range(150):
            first, second = [
                joined([self.random_box(chance) for _ in range(chance.randint(1, 8))]) for _ in range(2)]
            solid = ("both", (chance.choice(("either", "cut")), first, second), THREE)
            counts = self.counts_by_cubes(solid)
            self.assert_counts(solid, *counts)
            found.add(counts)
        self.assertGreaterEqual(len(found), 6)

    def random_box(self, chance):
        # Corners from 0 to 3 alone, so that all planes together are at most 12.
        low = [chance.randint(0, 2) for _ in range(3)]
        if chance.random() < 0.7:
            return cube(*low)
        return ("box", tuple(low), tuple(chance.randint(x + 1, 3) for x in low))

    def counts_by_cubes(self, solid):
        """Return how many parts and holes a solid within the cube from 0 to 3 has."""
        half = Fraction(1, 2)
        left = {at: holds(solid, [x + half for x in at]) for at in product(range(-1, 4), repeat=3)}
        pieces = []
        while left:
            first = next(iter(left))
            value, waiting = left[first], [first]
            for at in waiting:
                for axis, step in product(range(3), (1, -1)):
                    beside = tuple(x + step * (k == axis) for k, x in enumerate(at))
                    if beside not in waiting and left.get(beside) is value:
                        waiting.append(beside)
            for at in waiting:
                del left[at]
            pieces.append((value, any(-1 in at or 3 in at for at in waiting)))
        return pieces.count((True, False)), pieces.count((False, False))

    def test_against_points(self):
        chance = random.Random(82)
        found = set()
        for k in range(150):
            solid = packed_solid(chance, 6)
            if k % 3 == 0:
                solid = ("cut", ("box", (-9, -9, -9), (9, 9, 9)), packed_solid(chance, 4))
            if k % 3 == 1:
                first, second = packed_solid(chance, 6), packed_solid(chance, 2)
                solid = ("either", ("cut", first, second), ("cut", second, first))
                if not is_solid(solid):
                    continue
            pieces = slow_pieces(solid)
            parts = len([inner for inner, _ in pieces if inner])
            holes = pieces.count((False, False))
            self.assert_counts(solid, parts, holes)
            found.add((parts, holes))
        self.assertGreaterEqual(len(found), 4)


class TestErrors(unittest.TestCase):

    def test_what_is_not_a_solid(self):
        for value in (*WRONG_VALUES, deep(13), wide(41), nested(lambda x: [x], 30, HALF), ("turned", 48, B)):
            for count in (count_parts, count_holes):
                with self.subTest(count.__name__), self.assertRaises(InvalidSolid):
                    count(value)


if __name__ == "__main__":
    unittest.main()
