"""Tests of points 1 (a, b), 2.1, 2.5 to 2.7, 3 and 5: forms, and solids round points."""

import copy
import random
import unittest
from fractions import Fraction
from itertools import combinations

from solidforms.errors import InvalidPoint, InvalidSolid, OnFace
from solidforms.forms import face_planes, form, inside, is_all, is_blank
from tests.samples import B, HALF, TEXTS, WRONG_VALUES, deep, nested, packed_solid, slow_planes, wide
from tests.space import (
    aside_from, determinant, flat_lines, flat_samples, height, holds, kept_places, kind_at,
    kind_in_picture, number, one_form, samples, slow_face_planes, slow_round, stretches, told_point,
)

CORNER = ("both", ("half", -1, 0, 0, 0), ("both", ("half", 0, -1, 0, 0), ("half", 0, 0, -1, 0)))
TETRA = ("both", CORNER, ("half", 1, 1, 1, 1))
NOTHING = ("cut", B, B)
SPACE = ("either", B, ("not", B))


def at(*numbers):
    """Return a point or a pair of kept coordinates, given by numbers."""
    return told_point(numbers)


def picture(solid, plane):
    return dict(form(solid)[0])[plane]


class FormCase(unittest.TestCase):

    def assert_blank(self, solid):
        self.assertEqual(form(solid), ((), False))
        self.assertEqual(face_planes(solid), ())
        self.assertIs(is_blank(solid), True)
        self.assertIs(is_all(solid), False)

    def assert_all(self, solid):
        self.assertEqual(form(solid), ((), True))
        self.assertIs(form(solid)[1], True)
        self.assertEqual(face_planes(solid), ())
        self.assertIs(is_blank(solid), False)
        self.assertIs(is_all(solid), True)

    def assert_faces(self, solid, planes):
        self.assertEqual(face_planes(solid), tuple(planes))
        self.assertEqual(tuple(plane for plane, _ in form(solid)[0]), tuple(planes))
        self.assertIs(form(solid)[1], False)
        self.assertIs(is_blank(solid), False)
        self.assertIs(is_all(solid), False)


class TestByHand(FormCase):

    def test_example(self):
        self.assertEqual(form(HALF), ((((1, 0, 0, 2), (2, ())),), False))
        self.assert_faces(HALF, [(1, 0, 0, 2)])

    def test_half_spaces(self):
        for half, plane, kind in (
            (("half", -1, 0, 0, -2), (1, 0, 0, 2), 1), (("half", 2, 2, 2, 1), (2, 2, 2, 1), 2),
            (("half", 0, -2, 2, 4), (0, 1, -1, -2), 1), (("half", 0, 0, 3, 9), (0, 0, 1, 3), 2),
            (("half", 0, 0, -3, 0), (0, 0, 1, 0), 1), (("not", HALF), (1, 0, 0, 2), 1),
            (("moved", (1, 5, 5), HALF), (1, 0, 0, 3), 2), (("turned", 4, HALF), (1, 0, 0, -2), 1),
            (("turned", 24, HALF), (0, 0, 1, 2), 2),
        ):
            with self.subTest(half):
                self.assertEqual(form(half), (((plane, (kind, ())),), False))

    def test_a_box(self):
        def face(kind, u, v):
            # The four borders of a rectangle from (0, 0) to (u, v).
            corners = at(0, 0), at(u, 0), at(0, v), at(u, v)
            return (0, (
                ((0, 1, -v), corners[2], corners[3], 0, kind),
                ((0, 1, 0), corners[0], corners[1], kind, 0),
                ((1, 0, -u), corners[1], corners[3], kind, 0),
                ((1, 0, 0), corners[0], corners[2], 0, kind),
            ))
        self.assertEqual(form(B), ((
            ((0, 0, 1, 0), face(1, 1, 2)), ((0, 0, 1, 3), face(2, 1, 2)),
            ((0, 1, 0, 0), face(1, 1, 3)), ((0, 1, 0, 2), face(2, 1, 3)),
            ((1, 0, 0, 0), face(1, 2, 3)), ((1, 0, 0, 1), face(2, 2, 3)),
        ), False))

    def test_all_but_a_box(self):
        changed = {0: 0, 1: 2, 2: 1}
        for (plane, (base, borders)), other in zip(form(B)[0], form(("not", B))[0]):
            turned = tuple((*border[:3], changed[border[3]], changed[border[4]]) for border in borders)
            self.assertEqual(other, (plane, (base, turned)))

    def test_a_slanted_wedge(self):
        wedge = ("both", ("half", 1, 1, 0, 0), ("half", 1, -1, 2, 3))
        self.assertEqual(form(wedge), ((
            ((1, -1, 2, 3), (2, (((1, 1, 0), None, None, 0, 2),))),
            ((1, 1, 0, 0), (2, (((2, 2, -3), None, None, 0, 2),))),
        ), False))

    def test_a_corner_with_slanted_planes(self):
        side = (0, (
            ((0, 1, 0), at(0, 0), at(1, 0), 1, 0),
            ((1, 0, 0), at(0, 0), at(0, 1), 0, 1),
            ((1, 1, -1), at(0, 1), at(1, 0), 0, 1),
        ))
        slant = (0, (
            ((0, 1, 0), at(0, 0), at(1, 0), 2, 0),
            ((1, 0, 0), at(0, 0), at(0, 1), 0, 2),
            ((1, 1, -1), at(0, 1), at(1, 0), 0, 2),
        ))
        self.assertEqual(form(TETRA), ((
            ((0, 0, 1, 0), side), ((0, 1, 0, 0), side), ((1, 0, 0, 0), side), ((1, 1, 1, 1), slant),
        ), False))

    def test_an_endless_corner(self):
        side = (0, (((0, 1, 0), at(0, 0), None, 1, 0), ((1, 0, 0), at(0, 0), None, 0, 1)))
        self.assertEqual(form(CORNER), (tuple((plane, side) for plane in (
            (0, 0, 1, 0), (0, 1, 0, 0), (1, 0, 0, 0))), False))
        turned = ("turned", 7, CORNER)
        side = (2, (((0, 1, 0), None, at(0, 0), 0, 2), ((1, 0, 0), None, at(0, 0), 2, 0)))
        self.assertEqual({shown for _, shown in form(turned)[0]}, {side})

    def test_kinds_1_and_2_side_by_side(self):
        four = ("either", ("both", ("half", -1, 0, 0, 0), ("half", 0, -1, 0, 0)),
                ("both", ("half", 1, 0, 0, 0), ("half", 0, 1, 0, 0)))
        shown = (2, (((1, 0, 0), None, None, 2, 1),))
        self.assertEqual(form(four), ((((0, 1, 0, 0), shown), ((1, 0, 0, 0), shown)), False))

    def test_borders_on_one_line_with_other_kinds(self):
        # Two boxes on one plane, one above and one below it, with a corner of each in common.
        pair = ("either", ("box", (0, 0, 0), (1, 1, 1)), ("box", (1, 0, -1), (2, 1, 0)))
        self.assertEqual(picture(pair, (0, 0, 1, 0)), (0, (
            ((0, 1, -1), at(0, 1), at(1, 1), 0, 1),
            ((0, 1, -1), at(1, 1), at(2, 1), 0, 2),
            ((0, 1, 0), at(0, 0), at(1, 0), 1, 0),
            ((0, 1, 0), at(1, 0), at(2, 0), 2, 0),
            ((1, 0, -2), at(2, 0), at(2, 1), 2, 0),
            ((1, 0, -1), at(1, 0), at(1, 1), 1, 2),
            ((1, 0, 0), at(0, 0), at(0, 1), 0, 1),
        )))

    def test_borders_on_one_line_apart_from_each_other(self):
        pair = ("either", ("box", (0, 0, 0), (1, 1, 1)), ("box", (2, 0, 0), (3, 1, 1)))
        borders = picture(pair, (0, 0, 1, 0))[1]
        self.assertEqual([border for border in borders if border[0] == (0, 1, 0)], [
            ((0, 1, 0), at(0, 0), at(1, 0), 1, 0), ((0, 1, 0), at(2, 0), at(3, 0), 1, 0)])

    def test_left_out_coordinates(self):
        # In y = x (kept: x, z) the line x + z = 1; in x = 2 (kept: y, z) the line y = 1.
        self.assertEqual(
            picture(("both", ("half", 1, -1, 0, 0), ("half", 1, 0, 1, 1)), (1, -1, 0, 0)),
            (2, (((1, 1, -1), None, None, 0, 2),)))
        self.assertEqual(
            picture(("both", HALF, ("half", 0, 1, 0, 1)), (1, 0, 0, 2)),
            (2, (((1, 0, -1), None, None, 2, 0),)))

    def test_lines_that_do_not_cross(self):
        # In z = 0, the lines x - y = 1 and x - y = -2, with what is left of them being y > x - 1.
        strip = ("both", ("half", 0, 0, 1, 0), ("both", ("half", 1, -1, 0, 1), ("half", -1, 1, 0, 2)))
        self.assertEqual(picture(strip, (0, 0, 1, 0)), (0, (
            ((1, -1, -1), None, None, 2, 0), ((1, -1, 2), None, None, 0, 2))))
        self.assertEqual(picture(strip, (1, -1, 0, 1)), (2, (((0, 1, 0), None, None, 0, 2),)))
        self.assertEqual(picture(strip, (1, -1, 0, -2)), (1, (((0, 1, 0), None, None, 0, 1),)))
        # Upright lines, x = 1 and x = -2: left is where x is less.
        strip = ("both", ("half", 0, 0, 1, 0), ("both", ("half", 1, 0, 0, 1), ("half", -1, 0, 0, 2)))
        self.assertEqual(picture(strip, (0, 0, 1, 0)), (0, (
            ((1, 0, -1), None, None, 2, 0), ((1, 0, 2), None, None, 0, 2))))

    def test_fractions_at_the_ends_of_borders(self):
        three = ("both", ("half", 2, 0, 0, 1), ("both", ("half", 0, 3, 0, -2), ("half", 0, 0, 1, 0)))
        self.assertEqual(picture(three, (0, 0, 1, 0)), (2, (
            ((0, 3, 2), None, at(Fraction(1, 2), Fraction(-2, 3)), 0, 2),
            ((2, 0, -1), None, at(Fraction(1, 2), Fraction(-2, 3)), 2, 0),
        )))


class TestBase(FormCase):

    def test_far_to_the_left_and_there_far_below(self):
        for p in range(-3, 4):
            for q in range(-3, 4):
                for level in (-9, -1, 0, 9):
                    if p or q:
                        solid = ("both", ("half", 0, 0, 1, 0), ("half", p, q, 0, level))
                        base, borders = picture(solid, (0, 0, 1, 0))
                        held = q > 0 or q == 0 and p > 0
                        self.assertEqual(base, 2 if held else 0)
                        # The left of a line is where v is greater or, if it has one u, u is less.
                        left = 2 if q < 0 or q == 0 and p > 0 else 0
                        self.assertEqual(borders, ((one_form((p, q, -level)), None, None, left, 2 - left),))

    def test_left_comes_before_below(self):
        # Where u is small enough, u <= -5 decides, although v >= 0 does at u above it.
        pair = ("either", ("half", 1, 0, 0, -5), ("half", 0, -1, 0, 0))
        self.assertEqual(picture(("both", ("half", 0, 0, 1, 0), pair), (0, 0, 1, 0)), (2, (
            ((0, 1, 0), at(-5, 0), None, 2, 0), ((1, 0, 5), None, at(-5, 0), 2, 0))))

    def test_below_is_farther_than_left(self):
        # At each u, far below is right of every line that rises, and of every line that falls.
        for slope in (-3, -1, 1, 3):
            solid = ("both", ("half", 0, 0, 1, 0), ("half", -slope, 1, 0, 0))
            self.assertEqual(picture(solid, (0, 0, 1, 0))[0], 2)
            self.assertEqual(picture(("cut", ("half", 0, 0, 1, 0), solid), (0, 0, 1, 0))[0], 0)


class TestLongBorders(FormCase):

    def test_lines_of_other_planes_leave_no_border(self):
        step = ("either", ("half", 0, 0, 1, 0), ("both", ("half", 0, 0, 1, 1), ("half", 1, 0, 0, 0)))
        rest = ("both", ("half", 0, 1, 0, 3), ("both", ("half", 1, 1, 0, 5), ("half", 1, 0, 0, 9)))
        for extra in (("both", rest, NOTHING), ("both", rest, ("not", rest))):
            self.assertEqual(form(("either", step, extra)), form(step))
        self.assertEqual(picture(step, (0, 0, 1, 0)), (0, (((1, 0, 0), None, None, 0, 2),)))
        self.assertEqual(picture(step, (0, 0, 1, 1)), (2, (((1, 0, 0), None, None, 2, 0),)))
        self.assertEqual(picture(step, (1, 0, 0, 0)), (0, (
            ((0, 1, -1), None, None, 0, 2), ((0, 1, 0), None, None, 2, 0))))

    def test_borders_go_on_across_corners(self):
        # Two boxes side by side, of one depth: the seam carries no face, and borders go on over it.
        pair = ("either", ("box", (0, 0, 0), (1, 1, 1)), ("box", (1, 0, 0), (2, 1, 1)))
        self.assertEqual(form(pair), form(("box", (0, 0, 0), (2, 1, 1))))
        row = pair
        for k in range(2, 5):
            row = ("either", row, ("box", (k, 0, 0), (k + 1, 1, 1)))
        self.assertEqual(form(row), form(("box", (0, 0, 0), (5, 1, 1))))

    def test_borders_go_on_although_a_face_ends_there(self):
        # The wall x = 1 stands on the edge of the lower box, whose border goes on below it.
        pair = ("either", ("box", (0, 0, 0), (2, 2, 1)), ("box", (0, 0, 1), (1, 2, 2)))
        borders = picture(pair, (0, 1, 0, 0))[1]
        self.assertIn(((1, 0, 0), at(0, 0), at(0, 2), 0, 1), borders)
        self.assertIn(((0, 1, 0), at(0, 0), at(2, 0), 1, 0), borders)
        self.assertIn(((0, 1, -1), at(1, 1), at(2, 1), 0, 1), borders)
        self.assertEqual(len(borders), 6)


class TestSame(FormCase):

    def test_ways_to_write_one_solid(self):
        x, y, z = ("half", 1, 0, 0, 0), ("half", 0, 1, 0, 1), ("half", 1, 2, 3, 4)
        halves = [("half", *normal, level) for normal, level in (
            ((-1, 0, 0), 0), ((1, 0, 0), 1), ((0, -1, 0), 0), ((0, 1, 0), 2), ((0, 0, -1), 0), ((0, 0, 1), 3))]
        six = ("both", ("both", halves[0], halves[1]), ("both", ("both", *halves[2:4]), ("both", *halves[4:])))
        for first, second in (
            (B, six),
            (("not", ("both", x, y)), ("either", ("not", x), ("not", y))),
            (("cut", x, y), ("both", x, ("not", y))),
            (("both", x, ("either", y, z)), ("either", ("both", x, y), ("both", x, z))),
            (("not", ("not", z)), z), (("both", z, z), z), (("either", z, z), z),
            (("half", 2, -2, 0, 4), ("half", 1, -1, 0, 2)),
            (("not", HALF), ("half", -1, 0, 0, -2)),
            (("moved", (1, 2, 3), ("moved", (-1, -2, -3), B)), B),
            (("moved", (1, 2, 3), B), ("box", (1, 2, 3), (2, 4, 6))),
            (("turned", 7, ("turned", 7, B)), B),
            (("turned", 7, B), ("box", (-1, -2, -3), (0, 0, 0))),
            (("turned", 24, B), ("box", (0, 0, 0), (2, 3, 1))),
            (("turned", 0, z), z),
            (("cut", ("box", (0, 0, 0), (2, 2, 3)), ("half", -1, 0, 0, -1)), B),
        ):
            with self.subTest(first):
                self.assertEqual(form(first), form(second))

    def test_unlike_solids(self):
        solids = [HALF, ("not", HALF), ("half", 1, 0, 0, 3), ("half", 0, 1, 0, 2), B, ("not", B), NOTHING,
                  SPACE, CORNER, TETRA, ("either", B, ("moved", (1, 0, 0), TETRA)), ("cut", B, TETRA),
                  ("moved", (0, 0, 1), B), ("either", B, ("half", 0, 0, 1, 0))]
        for first, second in combinations(solids, 2):
            self.assertNotEqual(form(first), form(second))

    def test_needless_planes_carry_no_face(self):
        for solid in (
            ("both", HALF, ("half", 2, 0, 0, 8)), ("either", HALF, ("half", 1, 0, 0, 1)),
            ("either", HALF, ("both", HALF, B)), ("cut", HALF, ("box", (2, 0, 0), (3, 3, 3))),
            ("both", HALF, ("either", ("half", 1, 1, 1, 0), ("not", ("half", 1, 1, 1, 0)))),
        ):
            self.assert_faces(solid, [(1, 0, 0, 2)])
            self.assertEqual(form(solid), form(HALF))

    def test_blank(self):
        for solid in (
            NOTHING, ("both", HALF, ("not", HALF)), ("both", HALF, ("half", -1, 0, 0, -2)),
            ("both", HALF, ("half", -1, 0, 0, -3)), ("not", SPACE), ("cut", TETRA, CORNER),
            ("both", B, ("box", (1, 2, 3), (4, 4, 4))), ("both", B, ("moved", (1, 0, 0), B)),
            ("both", CORNER, ("half", 1, 1, 1, 0)), ("both", ("not", B), ("both", B, HALF)),
        ):
            with self.subTest(solid):
                self.assert_blank(solid)

    def test_all(self):
        for solid in (
            SPACE, ("either", HALF, ("half", -1, 0, 0, -2)), ("either", HALF, ("half", -1, 0, 0, -1)),
            ("not", NOTHING), ("either", ("not", TETRA), CORNER), ("not", ("both", CORNER, ("half", 1, 1, 1, 0))),
            ("either", ("half", 1, 1, 1, 0), ("half", -1, -1, -1, 0)),
        ):
            with self.subTest(solid):
                self.assert_all(solid)

    def test_neither_blank_nor_all(self):
        for solid, _ in TEXTS:
            self.assertIs(is_all(solid), False)
        self.assert_faces(("either", HALF, ("half", -1, 0, 0, -3)), [(1, 0, 0, 2), (1, 0, 0, 3)])
        self.assert_faces(("both", HALF, ("half", -1, 0, 0, -1)), [(1, 0, 0, 1), (1, 0, 0, 2)])


class TestAgainstPoints(FormCase):

    def check_pictures(self, solid):
        planes = sorted(slow_planes(solid))
        faces, filled = form(solid)
        self.assertEqual(face_planes(solid), slow_face_planes(solid), solid)
        self.assertEqual([plane for plane, _ in faces], list(slow_face_planes(solid)), solid)
        for plane, shown in faces:
            lines = flat_lines(plane, planes)
            for kept in flat_samples(lines):
                self.assertEqual(kind_in_picture(shown, *kept), kind_at(solid, planes, plane, kept), solid)
            self.check_borders(solid, planes, plane, shown[1])
        points = [holds(solid, point) for point, _ in samples(planes)]
        self.assertIs(filled, all(points))
        self.assertIs(is_all(solid), all(points))
        self.assertIs(is_blank(solid), not any(points))

    def check_borders(self, solid, planes, plane, borders):
        lines = flat_lines(plane, planes)
        keys = []
        for line, start, end, left, right in borders:
            self.assertIn(line, lines)
            self.assertNotEqual(left, right)
            keys.append((line, () if start is None else tuple(map(number, start))))
            for kept in stretches((line, start, end), lines):
                for beside, kind in zip(aside_from(line, lines, kept), (left, right)):
                    self.assertEqual(kind_at(solid, planes, plane, beside), kind, solid)
        self.assertEqual(keys, sorted(set(keys)))
        for first, second in zip(borders, borders[1:]):
            if first[0] == second[0] and first[3:] == second[3:]:
                self.assertLess(tuple(map(number, first[2])), tuple(map(number, second[1])))

    def test_random_solids(self):
        chance = random.Random(55)
        for _ in range(120):
            self.check_pictures(packed_solid(chance, 6))
        for _ in range(12):
            self.check_pictures(packed_solid(chance, 9, 9))

    def test_straight_ways_meet_faces(self):
        chance = random.Random(56)
        ways = 0
        for _ in range(60):
            solid = packed_solid(chance, 7)
            faces = form(solid)[0]
            for _ in range(10):
                ends = [self.point_off_planes(chance) for _ in range(2)]
                meets = 0
                for plane, shown in faces:
                    before, behind = [height(plane, end) for end in ends]
                    if before * behind < 0:
                        share = before / (before - behind)
                        point = [x + share * (y - x) for x, y in zip(*ends)]
                        meets += kind_in_picture(shown, *[point[k] for k in kept_places(plane)]) != 0
                sides = [inside(solid, told_point(end)) for end in ends]
                self.assertEqual(meets % 2 == 1, sides[0] != sides[1], solid)
                ways += meets > 0
        self.assertGreater(ways, 100)

    def point_off_planes(self, chance):
        """Return a point that lies on no plane of small numbers, since its bottoms have nothing
        in common."""
        return tuple(chance.randint(-3, 2) + Fraction(chance.randint(1, p - 1), p) for p in (983, 991, 997))

    def test_kinds_of_values(self):
        for solid in (B, TETRA, CORNER, ("turned", 13, ("cut", B, TETRA))):
            faces, filled = form(solid)
            self.assertIs(type(faces), tuple)
            self.assertIs(type(filled), bool)
            for plane, (base, borders) in faces:
                self.assertIs(type(base), int)
                self.assertIs(type(borders), tuple)
                for line, start, end, left, right in borders:
                    for part in (plane, line, *(start or ()), *(end or ())):
                        self.assertEqual({type(x) for x in part}, {int})
                    self.assertEqual({type(left), type(right)}, {int})


class TestInside(unittest.TestCase):

    def assert_round(self, solid, numbers, answer):
        point = told_point(numbers)
        if answer is None:
            with self.assertRaises(OnFace):
                inside(solid, point)
        else:
            self.assertIs(inside(solid, point), answer)

    def test_example(self):
        self.assertIs(inside(B, ((1, 2), (1, 1), (1, 1))), True)

    def test_round_a_box(self):
        half = Fraction(1, 2)
        for x, in_x in ((-1, False), (0, None), (half, True), (1, None), (2, False)):
            for y, in_y in ((-1, False), (0, None), (1, True), (2, None), (3, False)):
                for z, in_z in ((-1, False), (0, None), (half, True), (3, None), (4, False)):
                    answers = (in_x, in_y, in_z)
                    # Beside the box, the planes of its faces carry no face.
                    answer = False if False in answers else None if None in answers else True
                    self.assert_round(B, (x, y, z), answer)
                    self.assert_round(("not", B), (x, y, z), None if answer is None else not answer)

    def test_needless_planes(self):
        self.assert_round(("both", HALF, ("half", 1, 0, 0, 5)), (5, 0, 0), False)
        self.assert_round(("either", HALF, ("half", 1, 0, 0, 1)), (1, 0, 0), True)
        self.assert_round(NOTHING, (0, 0, 0), False)
        self.assert_round(NOTHING, (1, 2, 3), False)
        self.assert_round(SPACE, (0, 0, 0), True)
        self.assert_round(SPACE, (1, 1, 0), True)
        pair = ("either", ("box", (0, 0, 0), (1, 1, 1)), ("box", (1, 0, 0), (2, 1, 1)))
        half = Fraction(1, 2)
        self.assert_round(pair, (1, half, half), True)
        self.assert_round(pair, (1, 0, half), None)
        self.assert_round(pair, (1, 0, 0), None)
        self.assert_round(pair, (1, 2, half), False)

    def test_a_face_that_needless_planes_cross(self):
        extra = ("either", ("half", 1, 1, 0, 0), ("not", ("half", 1, 1, 0, 0)))
        solid = ("both", ("half", 0, 0, 1, 0), extra)
        self.assert_round(solid, (0, 0, 0), None)
        self.assert_round(solid, (1, -1, 0), None)
        self.assert_round(solid, (1, -1, -1), True)
        self.assert_round(solid, (1, -1, 1), False)

    def test_borders_between_other_kinds(self):
        four = ("either", CORNER, ("turned", 7, CORNER))
        self.assert_round(four, (0, 0, 0), None)
        self.assert_round(four, (1, 0, 0), None)
        self.assert_round(four, (1, -1, 0), False)
        self.assert_round(four, (0, 1, -1), False)
        self.assert_round(four, (0, -1, -1), None)

    def test_slanted_planes(self):
        third = Fraction(1, 3)
        self.assert_round(TETRA, (third, third, third), None)
        self.assert_round(TETRA, (third, third, Fraction(3, 10)), True)
        self.assert_round(TETRA, (third, third, Fraction(10 ** 29 + 1, 3 * 10 ** 29)), False)
        self.assert_round(TETRA, (third, third, Fraction(10 ** 29 - 1, 3 * 10 ** 29)), True)
        self.assert_round(TETRA, (2, -1, 0), False)
        self.assert_round(TETRA, (1, 0, 0), None)

    def test_far_points(self):
        far = 10 ** 30
        for solid, answer in ((HALF, False), (("not", HALF), True), (B, False), (("not", B), True)):
            self.assert_round(solid, (far, far, far), answer)
            self.assert_round(solid, (far, -far, Fraction(-1, far)), answer)
        self.assert_round(HALF, (-far, 0, 0), True)
        self.assert_round(HALF, (Fraction(2 * 4 * 10 ** 29 + 1, 4 * 10 ** 29), 0, 0), False)
        self.assert_round(("half", 1, -1, 0, 0), (far, far, 0), None)
        self.assert_round(("half", 1, -1, 0, 0), (far - 1, far, 0), True)

    def test_against_points_close_by(self):
        chance = random.Random(57)
        answers = {None: 0, True: 0, False: 0}
        for _ in range(80):
            solid = packed_solid(chance, 7)
            for point in self.special_points(chance, sorted(slow_planes(solid))):
                answer = slow_round(solid, point)
                self.assert_round(solid, point, answer)
                answers[answer] += 1
        self.assertGreater(min(answers.values()), 100)

    def special_points(self, chance, planes):
        for _ in range(8):
            point = [Fraction(chance.randint(-6, 6), chance.randint(1, 3)) for _ in range(3)]
            yield point
            plane = chance.choice(planes)
            share = height(plane, point) / sum(n * n for n in plane[:3])
            yield [x - share * n for x, n in zip(point, plane)]
            three = [chance.choice(planes) for _ in range(3)]
            whole = determinant([plane[:3] for plane in three])
            if whole:
                corner = []
                for place in range(3):
                    rows = [[p[3] if k == place else p[k] for k in range(3)] for p in three]
                    corner.append(Fraction(determinant(rows), whole))
                yield corner
                # Along one of the lines through the corner.
                plane, other = three[:2]
                way = [plane[1] * other[2] - plane[2] * other[1], plane[2] * other[0] - plane[0] * other[2],
                       plane[0] * other[1] - plane[1] * other[0]]
                yield [x + w * Fraction(1, 3) for x, w in zip(corner, way)]


class TestErrors(unittest.TestCase):

    POINT = ((1, 2), (1, 1), (1, 1))

    def test_what_is_not_a_solid(self):
        for value in (*WRONG_VALUES, deep(13), wide(41), ("half", 0, 0, 0, 1), ("turned", 48, HALF),
                      nested(lambda x: [x], 30, HALF), nested(lambda x: ("not", x), 30, HALF)):
            for function in (form, face_planes, is_blank, is_all):
                with self.subTest(function.__name__), self.assertRaises(InvalidSolid):
                    function(value)
            with self.assertRaises(InvalidSolid):
                inside(value, self.POINT)
            with self.assertRaises(InvalidSolid):
                inside(value, value)

    def test_what_is_not_a_point(self):
        for value in (
            *WRONG_VALUES, (), (0, 0, 0), ((0, 1), (0, 1)), ((0, 1),) * 4, [(0, 1)] * 3, "000",
            ([0, 1], [0, 1], [0, 1]), ((0, 1), (0, 1), {0: 1}), ((0, 1), (0, 1), None), (((0, 1),) * 3,),
            nested(lambda x: (x, x, x), 5, (0, 1)), nested(lambda x: [x], 30, 1),
        ):
            with self.subTest(repr(value)[:60]), self.assertRaises(InvalidPoint):
                inside(B, value)

    def test_what_is_not_a_fraction(self):
        far = 10 ** 30
        for value in (
            (2, 2), (2, 4), (0, 2), (0, 0), (1, 0), (1, -1), (0, -1), (-2, 2), (6, 4), (1,), (1, 1, 1), 1, None,
            "01", [1, 1], (1.0, 1), (1, 1.0), (True, 1), (1, True), (False, 1), (None, 1), ("1", 1), ((1,), 1),
            (far + 1, 1), (-far - 1, 1), (1, far + 1), (10 ** 31 + 1, 10 ** 31), (10 ** 400 + 1, 10 ** 400),
            (0.5, 1), (1, (1, 1)), {1: 1}, (far, far), {},
        ):
            for place in range(3):
                point = [(0, 1)] * 3
                point[place] = value
                with self.subTest(repr(value)[:60]), self.assertRaises(InvalidPoint):
                    inside(B, tuple(point))

    def test_greatest_fractions(self):
        far = 10 ** 30
        for value in ((far, 1), (-far, 1), (1, far), (-1, far), (far - 1, far), (far, far - 1), (-far, far - 1)):
            for place in range(3):
                point = [(1, 1)] * 3
                point[place] = value
                self.assertIs(inside(("half", 1, 1, 1, -9), tuple(point)), value[0] == -far and value[1] == 1)

    def test_the_solid_comes_first(self):
        with self.assertRaises(InvalidSolid):
            inside(None, None)
        with self.assertRaises(InvalidSolid):
            inside(("half", 0, 0, 0, 1), ((2, 2), (0, 1), (0, 1)))
        with self.assertRaises(InvalidPoint):
            inside(HALF, ((2, 1), (0, 1), (0, 2)))
        with self.assertRaises(OnFace):
            inside(HALF, ((2, 1), (0, 1), (0, 1)))

    def test_arguments_stay_and_answers_repeat(self):
        for solid, _ in TEXTS:
            kept = copy.deepcopy(solid)
            self.assertEqual(form(solid), form(kept))
            self.assertEqual(form(solid), form(solid))
            self.assertEqual(solid, kept)


if __name__ == "__main__":
    unittest.main()
