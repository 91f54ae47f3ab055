"""Tests of points 3 and 9: cuts through solids by planes and lines along the axes."""

import copy
import random
import unittest
from fractions import Fraction

from solidforms.errors import InvalidAxis, InvalidLevel, InvalidPoint, InvalidSolid, OnFace
from solidforms.forms import inside
from solidforms.sections import along, section
from tests.samples import B, HALF, TEXTS, WRONG_VALUES, deep, nested, packed_solid, slow_planes, wide
from tests.space import (
    aside_from, flat_lines, flat_samples, height, holds, kept_places, kind_at, kind_in_picture, lifted, middles,
    number, slow_face_planes, stepped, stretches, told, told_point,
)

NOTHING = ("cut", B, B)
SPACE = ("either", B, ("not", B))
CORNER = ("both", ("half", -1, 0, 0, 0), ("both", ("half", 0, -1, 0, 0), ("half", 0, 0, -1, 0)))
TETRA = ("both", CORNER, ("half", 1, 1, 1, 1))
CUBE = ("box", (0, 0, 0), (1, 1, 1))
THREE = ("box", (0, 0, 0), (3, 3, 3))
FRAME = ("box", (-2, -2, -2), (2, 2, 2))
HOLLOW = ("cut", THREE, ("box", (1, 1, 1), (2, 2, 2)))
TUNNEL = ("cut", THREE, ("box", (1, 1, 0), (2, 2, 3)))

WRONG_AXES = (
    True, False, 1.0, 0.0, 3, -1, 10 ** 40, None, "0", "x", (), (0,), [0], {0: 0}, float("nan"), nested(lambda x: [x], 30, 0))


def at(*numbers):
    return told_point(numbers)


def upright(axis, level):
    """Return the half space below a level of an axis."""
    return ("half", *[int(k == axis) for k in range(3)], level)


def rectangle(low, high, outer=False):
    """Return the borders of a rectangle in which the solid lies, or alone does not."""
    (u, v), (far_u, far_v) = low, high
    inner = not outer
    return tuple(sorted((
        (one_line(0, -far_v), at(u, far_v), at(far_u, far_v), outer, inner),
        (one_line(0, -v), at(u, v), at(far_u, v), inner, outer),
        (one_line(1, -far_u), at(far_u, v), at(far_u, far_v), inner, outer),
        (one_line(1, -u), at(u, v), at(u, far_v), outer, inner),
    ), key=lambda border: border[0]))


def one_line(p, r):
    """Return the line with u (if p is 1) or v as the number that is r less than 0."""
    top, bottom = told(r)
    return (p * bottom, (1 - p) * bottom, top)


class TestSectionByHand(unittest.TestCase):

    def assert_section(self, solid, axis, level, base, borders):
        answer = section(solid, axis, told(level))
        self.assertEqual(answer, (base, tuple(borders)))
        self.assertEqual(section(("not", solid), axis, told(level)), (not base, tuple(
            (line, start, end, not left, not right) for line, start, end, left, right in borders)))

    def test_example(self):
        self.assertIs(section(B, 2, (1, 1))[0], False)

    def test_a_box_along_each_axis(self):
        half = Fraction(1, 2)
        for axis, far in ((0, (2, 3)), (1, (1, 3)), (2, (1, 2))):
            for level in (half, Fraction(1, 3), Fraction(999999, 1000000)):
                self.assert_section(B, axis, level, False, rectangle((0, 0), far))
            for level in (-1, -half, 4, 10 ** 6, -10 ** 6, Fraction(-1, 10 ** 6)):
                self.assert_section(B, axis, level, False, ())

    def test_half_spaces_along_each_axis(self):
        for axis in range(3):
            for level, held in ((1, True), (3, False), (Fraction(3, 2), True), (Fraction(2000001, 1000000), None)):
                if held is None:
                    with self.assertRaises(InvalidLevel):
                        section(upright(axis, 2), axis, told(level))
                else:
                    self.assert_section(upright(axis, 2), axis, level, held, ())
            for other in {0, 1, 2} - {axis}:
                first = other == min({0, 1, 2} - {axis})
                line = (1, 0, -2) if first else (0, 1, -2)
                self.assert_section(upright(other, 2), axis, 7, True, [(line, None, None, first, not first)])

    def test_slanted_half_spaces(self):
        # x + 2y + 3z <= 4: at z 1/2 it is x + 2y <= 5/2, at y 1/2 x + 3z <= 3, at x 1/2 2y + 3z <= 7/2.
        slant = ("half", 1, 2, 3, 4)
        half = Fraction(1, 2)
        self.assert_section(slant, 2, half, True, [((2, 4, -5), None, None, False, True)])
        self.assert_section(slant, 1, half, True, [((1, 3, -3), None, None, False, True)])
        self.assert_section(slant, 0, half, True, [((4, 6, -7), None, None, False, True)])
        # 2x - 3z <= 1: at x 0 z >= -1/3, whatever y is.
        slant = ("half", 2, 0, -3, 1)
        self.assert_section(slant, 0, 0, False, [((0, 3, 1), None, None, True, False)])
        self.assert_section(slant, 2, 1, True, [((1, 0, -2), None, None, True, False)])
        self.assert_section(slant, 1, 5, False, [((2, -3, -1), None, None, True, False)])

    def test_a_pyramid(self):
        for level, far in ((0, None), (Fraction(1, 2), Fraction(1, 2)), (Fraction(2, 3), Fraction(1, 3)), (1, 0), (2, 0)):
            for axis in range(3):
                if far is None:
                    with self.assertRaises(OnFace):
                        section(TETRA, axis, told(level))
                elif far == 0:
                    self.assert_section(TETRA, axis, level, False, ())
                else:
                    slant = (far.denominator, far.denominator, -far.numerator)
                    self.assert_section(TETRA, axis, level, False, sorted([
                        ((0, 1, 0), at(0, 0), at(far, 0), True, False),
                        ((1, 0, 0), at(0, 0), at(0, far), False, True),
                        (slant, at(0, far), at(far, 0), False, True),
                    ], key=lambda border: border[0]))

    def test_solids_with_holes(self):
        half = Fraction(1, 2)
        for axis in range(3):
            outer = rectangle((0, 0), (3, 3))
            inner = rectangle((1, 1), (2, 2), outer=True)
            both = sorted(outer + inner, key=lambda border: border[0])
            self.assert_section(HOLLOW, axis, half, False, outer)
            self.assert_section(HOLLOW, axis, 3 * half, False, both)
            self.assert_section(HOLLOW, axis, 5 * half, False, outer)
        self.assert_section(TUNNEL, 2, half, False, both)
        self.assert_section(TUNNEL, 0, half, False, outer)
        self.assert_section(TUNNEL, 0, 3 * half, False, sorted(
            rectangle((0, 0), (1, 3)) + rectangle((2, 0), (3, 3)), key=self.by_line_and_start))

    def by_line_and_start(self, border):
        return (border[0], tuple(number(x) for x in border[1]))

    def test_solids_without_bounds(self):
        self.assert_section(CORNER, 0, 1, False, [
            ((0, 1, 0), at(0, 0), None, True, False), ((1, 0, 0), at(0, 0), None, False, True)])
        self.assert_section(CORNER, 0, -1, False, ())
        self.assert_section(("turned", 7, CORNER), 1, -1, True, [
            ((0, 1, 0), None, at(0, 0), False, True), ((1, 0, 0), None, at(0, 0), True, False)])

    def test_no_points_and_all_of_space(self):
        for axis in range(3):
            for level in (0, 1, 2, 3, Fraction(1, 2)):
                self.assert_section(NOTHING, axis, level, False, ())
                self.assert_section(SPACE, axis, level, True, ())

    def test_levels_of_faces(self):
        for axis, far in enumerate((1, 2, 3)):
            for level in (0, far):
                for solid in (B, ("not", B), ("moved", (0, 0, 0), B), ("either", B, ("moved", (5, 5, 5), B))):
                    with self.subTest(solid=solid), self.assertRaises(OnFace):
                        section(solid, axis, (level, 1))
            # Each level at which the other box has a face counts, also far from the first one.
            with self.assertRaises(OnFace):
                section(("either", B, ("moved", (5, 5, 5), B)), axis, (5, 1))
        with self.assertRaises(OnFace):
            section(("half", 3, 0, 0, 2), 0, (2, 3))
        with self.assertRaises(OnFace):
            section(("half", 0, 0, -2, -1), 2, (1, 2))
        self.assertEqual(section(("half", 3, 0, 0, 2), 0, (1, 3)), (True, ()))

    def test_levels_of_needless_planes(self):
        row = ("either", CUBE, ("box", (1, 0, 0), (2, 1, 1)))
        self.assert_section(row, 0, 1, False, rectangle((0, 0), (1, 1)))
        self.assert_section(("both", HALF, ("half", 1, 0, 0, 5)), 0, 5, False, ())
        self.assert_section(("either", HALF, ("half", 1, 0, 0, 1)), 0, 1, True, ())
        self.assert_section(("either", B, ("both", B, upright(2, 1))), 2, 1, False, rectangle((0, 0), (1, 2)))
        self.assert_section(("either", B, ("cut", TETRA, B)), 2, 1, False, rectangle((0, 0), (1, 2)))

    def test_needless_planes_leave_no_borders(self):
        for extra in (HALF, ("half", 1, 1, 1, 2), ("half", 1, -2, 3, 1), upright(1, 1)):
            solid = ("either", ("both", B, extra), ("cut", B, extra))
            self.assert_section(solid, 2, Fraction(1, 2), False, rectangle((0, 0), (1, 2)))
            self.assert_section(solid, 0, Fraction(1, 2), False, rectangle((0, 0), (2, 3)))

    def test_levels_of_corners_and_edges(self):
        # Two wedges, the edges of which lie at the level 0 of z.
        wedge = ("both", ("half", 1, 0, 1, 0), ("half", -1, 0, 1, 0))
        self.assert_section(wedge, 2, 0, False, ())
        self.assert_section(("not", wedge), 2, 0, True, ())
        self.assert_section(("either", wedge, ("turned", 1, wedge)), 2, 0, False, ())
        eight = ("both", ("both", ("both", ("half", 1, 1, 1, 1), ("half", -1, 1, 1, 1)),
                          ("both", ("half", 1, -1, 1, 1), ("half", 1, 1, -1, 1))),
                 ("both", ("both", ("half", -1, -1, 1, 1), ("half", -1, 1, -1, 1)),
                  ("both", ("half", 1, -1, -1, 1), ("half", -1, -1, -1, 1))))
        for axis in range(3):
            self.assert_section(eight, axis, 1, False, ())
            self.assert_section(eight, axis, -1, False, ())
            self.assert_section(eight, axis, 0, False, [
                ((1, -1, -1), at(0, -1), at(1, 0), True, False), ((1, -1, 1), at(-1, 0), at(0, 1), False, True),
                ((1, 1, -1), at(0, 1), at(1, 0), False, True), ((1, 1, 1), at(-1, 0), at(0, -1), True, False)])

    def test_kinds_of_values(self):
        base, borders = section(HOLLOW, 1, (3, 2))
        self.assertIs(type(borders), tuple)
        for line, start, end, left, right in borders:
            self.assertEqual({type(base), type(left), type(right)}, {bool})
            self.assertEqual({type(x) for part in (line, *start, *end) for x in part}, {int})


class TestSectionAgainstPoints(unittest.TestCase):

    def check_section(self, solid, axis, level):
        planes = sorted(slow_planes(solid))
        plane = tuple(level.denominator * int(k == axis) for k in range(3)) + (level.numerator,)
        lines = flat_lines(plane, planes)
        if any(kind_at(solid, planes, plane, kept) for kept in flat_samples(lines)):
            with self.assertRaises(OnFace):
                section(solid, axis, told(level))
            return None
        base, borders = section(solid, axis, told(level))
        for kept in flat_samples(lines):
            self.assertIs(kind_in_picture((base, borders), *kept), self.held(solid, planes, plane, kept), solid)
        keys = []
        for line, start, end, left, right in borders:
            self.assertIsNot(left, right)
            keys.append((line, () if start is None else tuple(map(number, start))))
            for kept in stretches((line, start, end), lines):
                for beside, value in zip(aside_from(line, lines, kept), (left, right)):
                    self.assertIs(self.held(solid, planes, plane, beside), value, solid)
        self.assertEqual(keys, sorted(set(keys)))
        for first, second in zip(borders, borders[1:]):
            if first[0] == second[0] and first[3:] == second[3:]:
                self.assertLess(tuple(map(number, first[2])), tuple(map(number, second[1])))
        return base, borders

    def held(self, solid, planes, plane, kept):
        return holds(solid, stepped(planes, lifted(plane, kept), plane[:3]))

    def test_random_solids(self):
        chance = random.Random(91)
        counts = {"face": 0, "empty": 0, "plane of no face": 0, "borders": 0}
        for k in range(150):
            solid = packed_solid(chance, 7)
            if k % 3 == 0:
                # Planes of the second solid are needless where they run inside the first one.
                solid = ("either", FRAME, packed_solid(chance, 4))
            planes = slow_planes(solid)
            for axis in range(3):
                level = Fraction(chance.randint(-6, 6), chance.choice((1, 1, 2, 2, 3)))
                answer = self.check_section(solid, axis, level)
                if answer is None:
                    counts["face"] += 1
                else:
                    counts["borders" if answer[1] else "empty"] += 1
                    plane = tuple(level.denominator * int(k == axis) for k in range(3)) + (level.numerator,)
                    counts["plane of no face"] += plane in planes
        self.assertGreater(min(counts.values()), 8, counts)


class TestAlongByHand(unittest.TestCase):

    def assert_along(self, solid, point, axis, *parts):
        told_parts = tuple(tuple(None if end is None else told(end) for end in part) for part in parts)
        self.assertEqual(along(solid, told_point(point), axis), told_parts)

    def assert_on_face(self, solid, point, axis):
        for asked in (solid, ("not", solid)):
            with self.subTest(solid=asked, point=point), self.assertRaises(OnFace):
                along(asked, told_point(point), axis)

    def test_example(self):
        self.assertEqual(along(B, ((1, 2), (1, 1), (9, 1)), 2), (((0, 1), (3, 1)),))

    def test_a_box_along_each_axis(self):
        half = Fraction(1, 2)
        for axis, far in enumerate((1, 2, 3)):
            for place in (-7, 0, half, far, 9, Fraction(10 ** 30, 7)):
                point = [half, half, half]
                point[axis] = place
                self.assert_along(B, point, axis, (0, far))
                self.assert_along(("not", B), point, axis, (None, 0), (far, None))
                # Beside the box, the line meets planes of faces, but no face.
                point[(axis + 1) % 3] = -1
                self.assert_along(B, point, axis)
                self.assert_along(("not", B), point, axis, (None, None))

    def test_half_spaces(self):
        for axis in range(3):
            self.assert_along(upright(axis, 2), (0, 0, 0), axis, (None, 2))
            self.assert_along(("not", upright(axis, 2)), (0, 0, 0), axis, (2, None))
            self.assert_along(upright((axis + 1) % 3, 2), (0, 0, 0), axis, (None, None))
            self.assert_along(upright((axis + 1) % 3, 2), (3, 3, 3), axis)
        slant = ("half", 1, 2, 3, 4)
        self.assert_along(slant, (1, 1, 1), 0, (None, -1))
        self.assert_along(slant, (1, 1, 1), 1, (None, 0))
        self.assert_along(slant, (1, 1, 1), 2, (None, Fraction(1, 3)))
        self.assert_along(("half", 1, -2, 3, 4), (1, 1, 1), 1, (0, None))

    def test_no_points_and_all_of_space(self):
        for axis in range(3):
            for point in ((0, 0, 0), (1, 2, 3), (Fraction(1, 2), 1, 1)):
                self.assert_along(NOTHING, point, axis)
                self.assert_along(SPACE, point, axis, (None, None))

    def test_several_stretches(self):
        half = Fraction(1, 2)
        self.assert_along(HOLLOW, (3 * half, 3 * half, 0), 2, (0, 1), (2, 3))
        self.assert_along(HOLLOW, (half, 3 * half, 0), 2, (0, 3))
        self.assert_along(("not", HOLLOW), (3 * half, 3 * half, 0), 2, (None, 0), (1, 2), (3, None))
        row = ("either", CUBE, ("either", ("moved", (2, 0, 0), CUBE), ("half", -1, 0, 0, -5)))
        self.assert_along(row, (0, half, half), 0, (0, 1), (2, 3), (5, None))

    def test_parts_that_touch(self):
        half = Fraction(1, 2)
        row = ("either", CUBE, ("moved", (1, 0, 0), CUBE))
        self.assert_along(row, (0, half, half), 0, (0, 2))
        self.assert_along(("either", CUBE, ("box", (1, 0, 0), (3, 9, 9))), (0, half, half), 0, (0, 3))
        self.assert_along(("either", HALF, ("half", -1, 0, 0, -2)), (0, 0, 0), 0, (None, None))
        # Their faces lie in one plane, but end at a common border of the kinds 1 and 2.
        pair = ("either", CUBE, ("box", (1, 0, -1), (2, 1, 0)))
        self.assert_along(pair, (half, half, 0), 2, (0, 1))
        self.assert_along(pair, (3 * half, half, 0), 2, (-1, 0))
        self.assert_on_face(pair, (1, half, 0), 2)
        self.assert_along(pair, (0, half, half), 0, (0, 1))

    def test_lines_in_planes_of_faces(self):
        for axis in range(3):
            other = (axis + 1) % 3
            for level in (0, (1, 2, 3)[other]):
                point = [5, 5, 5]
                point[other] = level
                # Also far away from the face itself.
                self.assert_on_face(B, point, axis)
        self.assert_on_face(("half", 1, 1, 0, 3), (1, 2, 0), 2)
        self.assert_along(("half", 1, 1, 0, 3), (1, 1, 0), 2, (None, None))
        self.assert_on_face(TETRA, (7, 0, 7), 0)

    def test_lines_in_needless_planes(self):
        half = Fraction(1, 2)
        row = ("either", CUBE, ("moved", (1, 0, 0), CUBE))
        self.assert_along(row, (1, half, 7), 2, (0, 1))
        self.assert_along(row, (1, 7, half), 1, (0, 1))
        # Four needless planes that meet in the line itself.
        fan = upright(2, 0)
        for a, b in ((1, 0), (0, -1), (1, 1), (1, -1)):
            fan = ("both", ("half", a, b, 0, 0), fan)
        fan = ("either", upright(2, 0), fan)
        self.assert_along(fan, (0, 0, 5), 2, (None, 0))
        self.assert_along(fan, (0, 1, -5), 0, (None, None))
        self.assert_along(fan, (0, 1, 5), 0)

    def test_crossings_of_needless_planes(self):
        extra = ("both", ("half", 1, 1, 0, 0), ("half", 0, 1, 1, 0))
        for solid in (("either", ("both", B, extra), ("cut", B, extra)), ("both", B, ("either", extra, ("not", extra)))):
            self.assert_along(solid, (Fraction(1, 2), 1, 0), 2, (0, 3))
            self.assert_along(solid, (0, 1, 1), 0, (0, 1))
            self.assert_along(solid, (Fraction(1, 3), 0, Fraction(1, 3)), 1, (0, 2))

    def test_borders(self):
        half = Fraction(1, 2)
        # Edges and corners of a solid without faces along the axes.
        wedge = ("both", ("half", 1, 1, 2, 0), ("half", -1, 1, 1, 0))
        eight = ("both", ("both", ("both", ("half", 1, 1, 1, 1), ("half", -1, 1, 1, 1)),
                          ("both", ("half", 1, -1, 1, 1), ("half", 1, 1, -1, 1))),
                 ("both", ("both", ("half", -1, -1, 1, 1), ("half", -1, 1, -1, 1)),
                  ("both", ("half", 1, -1, -1, 1), ("half", -1, -1, -1, 1))))
        for axis in range(3):
            self.assert_on_face(wedge, (0, 0, 0), axis)
            self.assert_on_face(eight, (0, 0, 0), axis)
            point = [half, half, half]
            point[axis] = 9
            self.assert_on_face(eight, point, axis)
            point[(axis + 1) % 3] = Fraction(1, 4)
            self.assert_along(eight, point, axis, (-Fraction(1, 4), Fraction(1, 4)))
            # Outside, where planes of faces cross, there is no border.
            point = [3, 1, 1]
            self.assert_along(eight, point, axis)
            # One corner of the eight.
            point = [0, 0, 0]
            point[(axis + 1) % 3] = 1
            self.assert_on_face(eight, point, axis)

    def test_a_border_that_is_passed_within_a_face(self):
        # The wall of the upper box ends on the face of the lower one, where the kind changes.
        step = ("either", ("box", (0, 0, 0), (2, 2, 1)), ("box", (0, 0, 1), (1, 2, 2)))
        half = Fraction(1, 2)
        self.assert_on_face(step, (1, half, half), 2)
        self.assert_along(step, (3 * half, half, half), 2, (0, 1))
        self.assert_along(step, (half, half, half), 2, (0, 2))
        self.assert_on_face(step, (half, half, 1), 0)
        self.assert_along(step, (half, half, half), 0, (0, 2))
        self.assert_along(step, (half, half, 3 * half), 0, (0, 1))

    def test_far_points(self):
        far = 10 ** 30
        self.assert_along(("half", 1, 1, 1, 0), (far, far, 0), 2, (None, -2 * far))
        self.assert_along(("half", 1, 2, 3, 0), (far, Fraction(1, far), 0), 2, (None, Fraction(-far, 3) - Fraction(2, 3 * far)))
        self.assert_along(("half", 1, 0, 0, 2), (5, Fraction(far, 3), -far), 0, (None, 2))

    def test_kinds_of_values(self):
        answer = along(HOLLOW, told_point((Fraction(3, 2), Fraction(3, 2), 0)), 2)
        self.assertIs(type(answer), tuple)
        self.assertEqual({type(x) for part in answer for end in part for x in end}, {int})
        self.assertEqual({type(x) for part in answer for x in (part, *part)}, {tuple})


class TestAlongAgainstPoints(unittest.TestCase):

    def expected(self, solid, point, axis):
        """Return the stretches, or None where OnFace is due."""
        planes = sorted(slow_planes(solid))
        faces = slow_face_planes(solid)
        if any(plane[axis] == 0 and height(plane, point) == 0 for plane in faces):
            return None
        places = sorted({point[axis] - height(plane, point) / Fraction(plane[axis]) for plane in planes if plane[axis]})
        for place in places:
            spot = (*point[:axis], place, *point[axis + 1:])
            if any(self.is_on_border(solid, planes, plane, spot) for plane in planes if height(plane, spot) == 0):
                return None
        marks = [None, *places, None]
        found = []
        for low, high, (middle, _) in zip(marks, marks[1:], middles(places)):
            spot = (*point[:axis], middle, *point[axis + 1:])
            if holds(solid, stepped(planes, stepped(planes, spot, (1, 0, 0)), (0, 1, 0))):
                if found and found[-1][1] == low and low is not None:
                    low = found.pop()[0]
                found.append((low, high))
        return tuple(tuple(None if end is None else told(end) for end in part) for part in found)

    def is_on_border(self, solid, planes, plane, spot):
        first, second = kept_places(plane)
        kept = (spot[first], spot[second])
        lines = flat_lines(plane, planes)
        through = [(p, q, 0) for p, q, r in lines if p * kept[0] + q * kept[1] + r == 0]
        flat = [(p, q, 0, -r) for p, q, r in lines]
        kinds = {
            kind_at(solid, planes, plane, stepped(flat, (*kept, Fraction(0)), (*way, 0))[:2])
            for way in flat_samples(through)}
        return len(kinds) > 1

    def test_random_solids(self):
        chance = random.Random(92)
        counts = {"face": 0, "nowhere": 0, "one": 0, "more": 0}
        for k in range(150):
            solid = packed_solid(chance, 7)
            if k % 3 == 0:
                # A slab is cut out of the frame, and another solid put into it.
                a, b, c, d = chance.choice((1, 2, 3)), chance.randint(-2, 2), chance.choice((1, -1)), chance.randint(-1, 1)
                slab = ("both", ("half", a, b, c, d + 1), ("half", -a, -b, -c, 1 - d))
                solid = ("either", ("cut", FRAME, slab), ("both", slab, packed_solid(chance, 3, 1)))
            reach = 1 if k % 3 == 0 else 4
            for axis in range(3):
                point = tuple(Fraction(chance.randint(-reach, reach), chance.choice((1, 1, 2, 3))) for _ in range(3))
                answer = self.expected(solid, point, axis)
                if answer is None:
                    with self.assertRaises(OnFace):
                        along(solid, told_point(point), axis)
                else:
                    self.assertEqual(along(solid, told_point(point), axis), answer, (solid, point, axis))
                counts["face" if answer is None else ("nowhere", "one", "more")[min(2, len(answer))]] += 1
        self.assertGreater(min(counts.values()), 15, counts)

    def test_against_inside_and_sections(self):
        chance = random.Random(93)
        checked = 0
        for _ in range(60):
            solid = packed_solid(chance, 8)
            axis = chance.randint(0, 2)
            # With bottoms that have nothing in common, the line lies in no plane of small numbers.
            point = tuple(chance.randint(-3, 2) + Fraction(chance.randint(1, p - 1), p) for p in (331, 337, 347))
            parts = along(solid, told_point(point), axis)
            for place in (Fraction(k, 7) for k in range(-20, 21)):
                spot = (*point[:axis], place, *point[axis + 1:])
                held = any((low is None or number(low) < place) and (high is None or place < number(high))
                           for low, high in parts)
                try:
                    answer = inside(solid, told_point(spot))
                except OnFace:
                    continue
                self.assertIs(answer, held)
                checked += held
                try:
                    picture = section(solid, axis, told(place))
                except OnFace:
                    continue
                self.assertIs(kind_in_picture(picture, *[spot[k] for k in range(3) if k != axis]), held)
        self.assertGreater(checked, 200)


class TestErrors(unittest.TestCase):

    POINT = ((1, 2), (1, 1), (1, 1))

    def test_what_is_not_a_solid(self):
        for value in (*WRONG_VALUES, deep(13), wide(41), nested(lambda x: [x], 30, HALF), ("turned", 48, B)):
            with self.subTest(repr(value)[:60]):
                with self.assertRaises(InvalidSolid):
                    section(value, 0, (1, 1))
                with self.assertRaises(InvalidSolid):
                    section(value, value, value)
                with self.assertRaises(InvalidSolid):
                    along(value, self.POINT, 0)
                with self.assertRaises(InvalidSolid):
                    along(value, None, 3)

    def test_what_is_not_an_axis(self):
        for value in WRONG_AXES:
            with self.subTest(repr(value)[:60]):
                with self.assertRaises(InvalidAxis):
                    section(B, value, (1, 2))
                with self.assertRaises(InvalidAxis):
                    section(B, value, None)
                with self.assertRaises(InvalidAxis):
                    along(B, self.POINT, value)

    def test_what_is_not_a_level(self):
        far = 10 ** 6
        for value in (
            *WRONG_VALUES, (2, 2), (2, 4), (0, 2), (0, 0), (1, 0), (1, -1), (0, -1), (-2, 2), (6, 4), (1,), (1, 1, 1),
            [1, 1], (1.0, 1), (1, 1.0), (True, 1), (1, True), (False, 1), (None, 1), ("1", 1), ((1,), 1), "11",
            (far + 1, 1), (-far - 1, 1), (1, far + 1), (-1, far + 1), (10 ** 40, 1), (1, 10 ** 40), (far, far),
            nested(lambda x: (x, 1), 30, 1), {1: 1}, 1, 0.5,
        ):
            with self.subTest(repr(value)[:60]), self.assertRaises(InvalidLevel):
                section(B, 0, value)

    def test_greatest_levels(self):
        far = 10 ** 6
        for level in ((far, 1), (-far, 1), (far, far - 1), (far - 1, far), (1, far), (-1, far), (-far, far - 1)):
            for axis in range(3):
                below = number(level) < 2
                self.assertEqual(section(upright(axis, 2), axis, level), (below, ()))

    def test_what_is_not_a_point(self):
        for value in (*WRONG_VALUES, (0, 0, 0), ((0, 1), (0, 1)), ((0, 1), (0, 1), (2, 2)), [(0, 1)] * 3,
                      ((0, 1), (0, 1), (0, -1)), ((10 ** 30 + 1, 1), (0, 1), (0, 1))):
            with self.subTest(repr(value)[:60]):
                with self.assertRaises(InvalidPoint):
                    along(B, value, 0)
                with self.assertRaises(InvalidPoint):
                    along(B, value, True)

    def test_what_is_wrong_comes_in_turn(self):
        with self.assertRaises(InvalidAxis):
            section(B, 3, (2, 2))
        with self.assertRaises(InvalidLevel):
            section(B, 2, (3, 3))
        with self.assertRaises(OnFace):
            section(B, 2, (3, 1))
        with self.assertRaises(InvalidPoint):
            along(B, ((1, 1), (1, 1), 1), 3)
        with self.assertRaises(InvalidAxis):
            along(B, ((1, 1), (1, 1), (1, 1)), 3)
        with self.assertRaises(OnFace):
            along(B, ((1, 1), (1, 1), (1, 1)), 1)

    def test_arguments_stay_and_answers_repeat(self):
        for solid, _ in TEXTS:
            kept = copy.deepcopy(solid)
            self.assertEqual(section(solid, 1, (1, 7)), section(kept, 1, (1, 7)))
            point = ((1, 7), (1, 5), (-1, 3))
            self.assertEqual(along(solid, point, 1), along(kept, point, 1))
            self.assertEqual(solid, kept)


if __name__ == "__main__":
    unittest.main()
