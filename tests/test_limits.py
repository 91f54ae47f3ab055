"""Tests of the bounds of point 2.2: the greatest solids are answered within a few seconds each."""

import random
import time
import unittest

from solidforms.cells import count_holes, count_parts
from solidforms.convex import halves, is_convex, needless_parts
from solidforms.desks import Desk
from solidforms.errors import NotConvex, OnFace
from solidforms.forms import face_planes, form, inside, is_all, is_blank
from solidforms.likeness import is_within, parting, same
from solidforms.moves import moves
from solidforms.sections import along, section
from solidforms.solids import count_planes, is_solid
from solidforms.volumes import box, differing_volume, is_bounded, volume
from tests.samples import greatest_solid, joined, slow_planes
from tests.space import holds, samples, stepped, told_point, number

# Each answer comes in a fraction of this on a common machine.
SECONDS = 5


def box_of_planes(levels):
    """Return what lies in an even number of the half spaces below these levels of all axes."""
    found = ("half", 1, 0, 0, levels[0])
    for axis in range(3):
        for level in levels[1:] if axis == 0 else levels:
            half = ("half", *[int(k == axis) for k in range(3)], level)
            found = ("either", found, half) if axis % 2 else ("cut", half, found)
    return found


def star(x):
    """Return a solid of half spaces that have the point (x, 0, 0) in common."""
    normals = [(1, k, 3 - abs(k)) for k in range(-3, 3)] + [(-3, k, abs(k)) for k in range(-2, 4)]
    found = ("half", *normals[0], normals[0][0] * x)
    for place, normal in enumerate(normals[1:]):
        found = (("either", "cut")[place % 2], ("half", *normal, normal[0] * x), found)
    return found


def pairs_of(halves, inner):
    """Return a solid with bounds, of half spaces round 0 and what is cut out of them."""
    found = halves[0]
    for half in halves[1:]:
        found = ("both", half, found)
    return ("cut", found, inner)


# Twelve slanted planes close round 0, and twelve others.
ROUND = [
    ("half", *normal, level) for normal, level in (
        ((3, 2, 1), 7), ((-3, 1, 2), 7), ((1, -3, 2), 8), ((2, 1, -3), 9), ((-1, -2, -3), 8), ((-2, 3, -1), 7),
        ((3, -1, -2), 9))]
OTHERS = [
    ("half", *normal, level) for normal, level in (
        ((2, 3, 1), 8), ((-1, 3, 2), 7), ((1, -2, 3), 8), ((2, -1, -3), 9), ((-3, -2, -1), 8), ((-2, 1, -3), 7),
        ((3, 1, -2), 9))]
WEDGES = joined([("both", ("half", 3, 3, 1, 1), ("half", 1, -3, 3, 2)), ("cut", ("half", -1, 1, 3, 0), ("half", 3, 1, 1, -5))])
LAST = ("half", 1, 1, 1, -1)


class TestLimits(unittest.TestCase):

    def timed(self, function, *arguments):
        begin = time.perf_counter()
        answer = function(*arguments)
        self.assertLess(time.perf_counter() - begin, SECONDS, function.__name__)
        return answer

    def check_one(self, solid):
        self.assertIs(is_solid(solid), True)
        faces, filled = self.timed(form, solid)
        self.assertEqual(self.timed(face_planes, solid), tuple(plane for plane, _ in faces))
        self.assertIs(self.timed(is_blank, solid), not faces and not filled)
        self.assertIs(self.timed(is_all, solid), filled)
        self.assertGreaterEqual(self.timed(count_parts, solid), 0 if not faces else 1)
        self.assertGreaterEqual(self.timed(count_holes, solid), 0)
        self.assertIs(self.timed(same, solid, solid), True)
        self.assertIs(self.timed(is_within, solid, solid), True)
        self.assertIsNone(self.timed(parting, solid, solid))
        self.check_cuts(solid)
        self.assertIs(self.timed(is_convex, solid), self.has_halves(solid) or is_blank(solid))
        for path in self.timed(needless_parts, solid):
            self.assertIs(same(solid, replaced(solid, path)), True)
        if self.timed(is_bounded, solid) and not is_blank(solid):
            self.assertIn((0, (0, 0, 0)), self.timed(moves, solid, solid))
            led = ("moved", (1, 2, 3), ("turned", 29, solid))
            if is_solid(led):
                self.assertIn((29, (1, 2, 3)), self.timed(moves, solid, led))
            self.check_desk(solid)
            self.assertEqual(self.timed(differing_volume, solid, solid), (0, 1))
            self.assertGreater(self.timed(volume, solid)[0], 0)
            low, high = self.timed(box, solid)
            self.assertTrue(all(number(x) < number(y) for x, y in zip(low, high)))

    def check_cuts(self, solid):
        for axis in range(3):
            for level in ((1, 7), (-9, 5), (40, 1)):
                self.assertIs(type(self.timed(section, solid, axis, level)), tuple)
                point = ((1, 7), (-1, 11), (2, 13))
                parts = self.timed(along, solid, point, axis)
                place = (*point[:axis], level, *point[axis + 1:])
                try:
                    answer = inside(solid, place)
                except OnFace:
                    continue
                self.assertIs(answer, any(
                    (low is None or number(low) < number(level)) and (high is None or number(level) < number(high))
                    for low, high in parts))

    def has_halves(self, solid):
        try:
            return isinstance(self.timed(halves, solid), tuple)
        except NotConvex:
            return False

    def check_desk(self, solid):
        desk = self.timed(Desk, solid)
        if is_solid(("cut", solid, solid)):
            change = self.timed(desk.cut, solid)
            self.assertEqual(-number(change), number(volume(solid)))
            self.assertEqual(number(self.timed(desk.undo)), number(volume(solid)))
        self.assertIs(self.timed(Desk.__eq__, desk, Desk(solid)), True)

    def check_pair(self, solid, other):
        self.assertIs(self.timed(same, solid, other), False)
        self.timed(is_within, solid, other)
        point = self.timed(parting, solid, other)
        self.assertNotEqual(self.timed(inside, solid, point), self.timed(inside, other, point))

    def test_greatest_solids(self):
        chance = random.Random(22)
        row = [greatest_solid(chance) for _ in range(4)]
        row.append(greatest_solid(chance, ("either", "cut")))
        row.append(greatest_solid(chance, ("both", "cut", "cut")))
        for solid, other in zip(row, row[1:] + row[:1]):
            self.assertEqual(count_planes(solid), 12)
            self.assertEqual(depth(solid), 12)
            self.assertEqual(many(solid), 40)
            self.check_one(solid)
            self.check_pair(solid, other)

    def test_upright_planes(self):
        solid = box_of_planes((-6, -2, 3, 7))
        self.assertEqual((count_planes(solid), depth(solid)), (12, 12))
        self.check_one(solid)
        self.check_pair(solid, box_of_planes((-5, -1, 4, 8)))

    def test_parallel_planes(self):
        solid = joined([("cut", ("half", 1, 2, 3, k + 1), ("half", 1, 2, 3, k)) for k in range(-6, 6, 2)])
        self.assertEqual(count_planes(solid), 12)
        self.check_one(solid)
        self.assertEqual(count_parts(solid), 6)
        self.check_pair(solid, ("not", solid))

    def test_planes_through_one_point(self):
        solid = star(0)
        self.assertEqual((count_planes(solid), depth(solid)), (12, 12))
        self.check_one(solid)
        self.check_pair(solid, star(2))

    def test_solids_with_bounds(self):
        solid, other = pairs_of(ROUND, WEDGES), pairs_of(OTHERS, LAST)
        self.assertGreaterEqual(count_planes(solid), 11)
        self.assertIs(is_bounded(solid), True)
        self.assertIs(is_bounded(other), True)
        self.check_one(solid)
        self.check_pair(solid, other)
        self.assertGreater(self.timed(differing_volume, solid, other)[0], 0)
        self.assertEqual(differing_volume(solid, other), differing_volume(other, solid))

    def test_a_difference_at_great_x(self):
        # All planes cross at less x than what differs.
        chance = random.Random(23)
        solid = greatest_chain_without_last(chance)
        far = ("moved", (9, 9, 9), ("moved", (9, 9, 9), ("moved", (9, 9, 9), ("half", -1, 0, 0, -9))))
        for word in ("either", "cut"):
            other = (word, solid, far)
            self.assertLessEqual(count_planes(other), 12)
            point = self.timed(parting, solid, other)
            self.assertGreater(number(point[0]), 36)
            self.assertNotEqual(inside(solid, point), inside(other, point))

    def test_inside_agrees_with_points(self):
        chance = random.Random(24)
        solid = greatest_solid(chance)
        planes = sorted(slow_planes(solid))
        for point, _ in list(samples(planes[:5]))[::7]:
            beside = stepped(planes, stepped(planes, stepped(planes, point, (1, 0, 0)), (0, 1, 0)), (0, 0, 1))
            self.assertIs(self.timed(inside, solid, told_point(beside)), holds(solid, beside))


class TestManyPlanes(unittest.TestCase):

    # A common machine takes less than a tenth of this for all calls of one test.
    SECONDS = 2

    SOLID = (
        "cut",
        ("cut", ("either", ("box", (-2, -2, -2), (1, 1, 1)), ("half", 1, 2, -1, 1)), ("half", 2, -1, 1, 0)),
        ("both", ("half", 1, 1, 1, 1),
         ("both", ("half", -1, 1, 2, -1), ("both", ("half", 1, -1, 2, 2), ("half", 2, 1, 1, -1)))))
    OTHER = (
        "cut",
        ("cut", ("either", ("box", (-1, -2, -1), (2, 1, 0)), ("half", 2, 2, -1, 1)), ("half", 2, -1, 2, 0)),
        ("both", ("half", 1, 2, 1, 1),
         ("both", ("half", -1, 2, 2, -1), ("both", ("half", 1, -1, 1, 2), ("half", 2, 1, 2, -1)))))
    PAIR = ("either", ("box", (0, 0, 0), (1, 1, 1)), ("box", (2, 2, 2), (3, 3, 3)))

    def setUp(self):
        self.begin = time.perf_counter()

    def tearDown(self):
        self.assertLess(time.perf_counter() - self.begin, self.SECONDS)

    def test_planes_that_carry_faces(self):
        for solid, planes in (
            (self.SOLID, (
                (0, 0, 1, -2), (0, 0, 1, 1), (0, 1, 0, 1), (1, -1, -2, 1), (1, -1, 2, 2), (1, 0, 0, 1), (1, 2, -1, 1),
                (2, -1, 1, 0), (2, 1, 1, -1))),
            (self.OTHER, (
                (0, 0, 1, -1), (0, 0, 1, 0), (0, 1, 0, 1), (1, -2, -2, 1), (1, -1, 1, 2), (1, 0, 0, 2), (2, -1, 2, 0),
                (2, 1, 2, -1), (2, 2, -1, 1))),
        ):
            self.assertEqual(count_planes(solid), 12)
            self.assertEqual(face_planes(solid), planes)

    def test_likeness(self):
        for solid, other in ((self.SOLID, self.OTHER), (self.OTHER, self.SOLID)):
            self.assertIs(same(solid, other), False)
            self.assertIs(is_within(solid, other), False)
            self.assertEqual(parting(solid, other), ((-6, 1), (-19, 1), (-9, 2)))
        less = ("cut", self.SOLID, ("half", 1, 0, 0, 1))
        self.assertIs(is_within(less, self.SOLID), True)
        self.assertIs(is_within(self.SOLID, less), False)
        self.assertEqual(parting(less, self.SOLID), ((-5, 1), (-14, 1), (-11, 4)))

    def test_volumes(self):
        other = ("turned", 13, ("moved", (1, 0, -1), self.PAIR))
        self.assertEqual(volume(self.PAIR), (2, 1))
        self.assertEqual(differing_volume(self.PAIR, other), (4, 1))
        self.assertEqual(differing_volume(other, self.PAIR), (4, 1))
        self.assertEqual(differing_volume(self.PAIR, ("moved", (0, 0, 1), self.PAIR)), (4, 1))

    def test_moves(self):
        # Two cubes at the ends of a diagonal of a greater one.
        other = ("turned", 13, ("moved", (1, 0, -1), self.PAIR))
        rows = moves(self.PAIR, other)
        self.assertEqual(len(rows), 12)
        for turn, shift in rows:
            self.assertIs(same(("moved", shift, ("turned", turn, self.PAIR)), other), True)


def replaced(solid, path):
    """Return a solid with the first solid of a part in place of the part at a path."""
    if not path:
        return solid[1]
    return tuple(replaced(part, path[1:]) if place == path[0] else part for place, part in enumerate(solid))


def greatest_chain_without_last(chance):
    found = ("half", 1, 1, 1, 0)
    for k in range(1, 10):
        half = ("half", (-1) ** k * (k % 3), k % 4 - 1, 1 + k % 2, k - 5)
        found = (chance.choice(("either", "cut", "both")), half, found)
    return found


def depth(solid):
    return 1 + max([depth(part) for part in solid if isinstance(part, tuple) and isinstance(part[0], str)], default=0)


def many(solid):
    return 1 + sum(many(part) for part in solid if isinstance(part, tuple) and isinstance(part[0], str))


if __name__ == "__main__":
    unittest.main()
