"""Tests of points 1 (e), 2.3, 3 and 11: turns and shifts that lead one solid to another one."""

import copy
import random
import unittest
from fractions import Fraction
from itertools import product

from solidforms.errors import Blank, InvalidSolid, NoBounds
from solidforms.likeness import same
from solidforms.moves import moves
from solidforms.solids import is_solid
from solidforms.volumes import box, volume
from tests.samples import B, HALF, TEXTS, WRONG_VALUES, deep, nested, packed_solid, slow_planes, turned_point, wide
from tests.space import holds, number, samples, unturned

NOTHING = ("cut", B, B)
SPACE = ("either", B, ("not", B))
CUBE = ("box", (0, 0, 0), (1, 1, 1))
FRAME = ("box", (-2, -2, -2), (2, 2, 2))
CORNER = ("both", ("half", -1, 0, 0, 0), ("both", ("half", 0, -1, 0, 0), ("half", 0, 0, -1, 0)))
TETRA = ("both", CORNER, ("half", 1, 1, 1, 1))
# A corner with three edges of unlike lengths: no turn but the one with the number 0 keeps it.
SKEW = ("both", CORNER, ("half", 1, 2, 3, 6))
# The turns that do not mirror: those with an even number of sign changes and exchanges.
EVEN_ORDERS = (0, 3, 4)


# Points off all planes of small numbers.
FEW = list(product(*[[Fraction(k, p) for k in (1, p // 2, p + 2, 2 * p - 3)] for p in (23, 29, 31)]))


def is_mirroring(turn):
    k, signs = divmod(turn, 8)
    return (k not in EVEN_ORDERS) != (bin(signs).count("1") % 2 == 1)


def led(number_, shift, solid):
    return ("moved", shift, ("turned", number_, solid))


class TestByHand(unittest.TestCase):

    def test_example(self):
        self.assertEqual(len(moves(B, B)), 8)
        self.assertEqual(moves(B, B), tuple(
            (4 * i + 2 * j + k, (i, 2 * j, 3 * k)) for i, j, k in product((0, 1), repeat=3)))

    def test_all_symmetries(self):
        self.assertEqual(moves(FRAME, FRAME), tuple((turn, (0, 0, 0)) for turn in range(48)))
        rows = moves(CUBE, CUBE)
        self.assertEqual([turn for turn, _ in rows], list(range(48)))
        for turn, shift in rows:
            self.assertEqual(shift, tuple(1 if turn & bit else 0 for bit in (4, 2, 1)))
        far = ("moved", (9, -9, 9), ("moved", (9, -9, 9), FRAME))
        self.assertEqual(moves(FRAME, far), tuple((turn, (18, -18, 18)) for turn in range(48)))
        self.assertEqual(moves(far, FRAME)[0], (0, (-18, 18, -18)))
        self.assertEqual(len(moves(far, FRAME)), 48)

    def test_no_symmetries(self):
        self.assertEqual(moves(SKEW, SKEW), ((0, (0, 0, 0)),))
        for turn in range(48):
            for shift in ((0, 0, 0), (1, -2, 3), (-9, 9, 0)):
                self.assertEqual(moves(SKEW, led(turn, shift, SKEW)), ((turn, shift),))

    def test_some_symmetries(self):
        # A pyramid with three alike edges: they change places, but none is made negative.
        self.assertEqual(moves(TETRA, TETRA), tuple((8 * k, (0, 0, 0)) for k in range(6)))
        row = ("either", CUBE, ("moved", (1, 0, 0), CUBE))
        self.assertEqual(len(moves(row, row)), 16)
        self.assertEqual({turn // 8 for turn, _ in moves(row, row)}, {0, 1})
        # Two cubes in an edge: four exchanges and signs keep the edge.
        pair = ("either", CUBE, ("moved", (1, 1, 0), CUBE))
        self.assertEqual(len(moves(pair, pair)), 8)
        diagonal = ("either", CUBE, ("moved", (1, 1, 1), CUBE))
        self.assertEqual(len(moves(diagonal, diagonal)), 12)

    def test_mirrored_ones(self):
        # What has no symmetry is led to its mirror image by one turn, which mirrors.
        for turn in range(48):
            ((found, _),) = moves(SKEW, ("turned", turn, SKEW))
            self.assertIs(is_mirroring(found), is_mirroring(turn))
        self.assertEqual(sum(map(is_mirroring, range(48))), 24)
        # Half of the symmetries of a cube mirror it.
        self.assertEqual(sum(is_mirroring(turn) for turn, _ in moves(FRAME, FRAME)), 24)

    def test_solids_that_are_not_alike(self):
        for solid, other in (
            (B, CUBE), (CUBE, B), (B, TETRA), (TETRA, SKEW), (B, ("box", (0, 0, 0), (1, 2, 4))),
            (("cut", FRAME, CUBE), FRAME), (FRAME, ("cut", FRAME, CUBE)),
            # All planes of the one are planes of the other, too, which is cut off at a corner.
            (FRAME, ("both", FRAME, ("half", 1, 1, 1, 5))), (("both", FRAME, ("half", 1, 1, 1, 5)), FRAME),
            (FRAME, ("both", FRAME, ("half", -1, -1, -1, 5))), (("both", FRAME, ("half", -1, 1, -1, 5)), FRAME),
            (CUBE, ("box", (0, 0, 0), (2, 2, 2))),
        ):
            self.assertEqual(moves(solid, other), ())

    def test_one_box_but_unlike_inside(self):
        # Both have the same planes, volumes and boxes.
        low, high = CUBE, ("moved", (1, 1, 1), CUBE)
        side, top = ("moved", (1, 0, 0), CUBE), ("moved", (0, 1, 1), CUBE)
        edge = ("cut", ("box", (0, 0, 0), (2, 2, 2)), ("either", low, ("moved", (1, 1, 0), CUBE)))
        corner = ("cut", ("box", (0, 0, 0), (2, 2, 2)), ("either", low, high))
        face = ("cut", ("box", (0, 0, 0), (2, 2, 2)), ("either", low, side))
        self.assertEqual({volume(solid) for solid in (edge, corner, face)}, {(6, 1)})
        for first, second in product((edge, corner, face), repeat=2):
            self.assertIs(moves(first, second) == (), first != second)
        other = ("cut", ("box", (0, 0, 0), (2, 2, 2)), ("either", side, top))
        self.assertEqual(len(moves(corner, other)), 12)
        # The holes in two cubes, one of which has a face more.
        self.assertEqual(moves(("box", (0, 0, 0), (2, 2, 2)), ("cut", ("box", (0, 0, 0), (2, 2, 2)), low)), ())
        self.assertEqual(moves(("cut", ("box", (0, 0, 0), (2, 2, 2)), low), ("box", (0, 0, 0), (2, 2, 2))), ())

    def test_planes_without_faces_do_not_count(self):
        extra = ("half", 1, 2, -1, 1)
        hidden = ("either", ("both", SKEW, extra), ("cut", SKEW, extra))
        self.assertEqual(moves(hidden, SKEW), ((0, (0, 0, 0)),))
        self.assertEqual(moves(SKEW, ("turned", 30, hidden)), ((30, (0, 0, 0)),))
        self.assertEqual(moves(("both", FRAME, ("half", 1, 1, 1, 6)), FRAME), moves(FRAME, FRAME))

    def test_shifts_beyond_9(self):
        solid = SKEW
        for k in range(1, 5):
            solid = ("moved", (9, -9, 8), solid)
            self.assertEqual(moves(SKEW, solid), ((0, (9 * k, -9 * k, 8 * k)),))
            self.assertEqual(moves(solid, SKEW), ((0, (-9 * k, 9 * k, -8 * k)),))
        self.assertEqual(moves(solid, ("turned", 7, solid)), ((7, (0, 0, 0)),))
        self.assertEqual(moves(("turned", 7, SKEW), solid), ((7, (36, -36, 32)),))

    def test_shifts_that_are_no_whole_numbers(self):
        # 2x from 1 to 3: a cube of the size 1 that begins at 1/2.
        halves = [("half", *[s * 2 * int(k == axis) for k in range(3)], level)
                  for axis in range(3) for s, level in ((1, 3), (-1, -1))]
        shifted = halves[0]
        for half in halves[1:]:
            shifted = ("both", shifted, half)
        self.assertEqual(moves(CUBE, shifted), ())
        self.assertEqual(moves(shifted, CUBE), ())
        self.assertEqual(len(moves(shifted, shifted)), 48)
        # Shifted by 1/2 along one axis: half of a turn about another axis needs twice of it.
        one = ("both", ("box", (0, 0, 0), (2, 1, 1)), ("both", ("half", 2, 0, 0, 3), ("half", -2, 0, 0, -1)))
        self.assertEqual(moves(CUBE, one), ())
        self.assertEqual([turn for turn, _ in moves(one, one)], list(range(16)))
        # Shorter by 1/2 than 1: mirrored it lies at -1/2, and whole shifts do not lead it back.
        flat = ("both", ("box", (0, 0, 0), (1, 3, 2)), ("half", 2, 0, 0, 1))
        self.assertEqual([turn for turn, _ in moves(flat, flat)], [0, 1, 2, 3])
        self.assertEqual(moves(flat, ("turned", 4, flat)), tuple(
            (4 + 2 * j + k, (0, 0 if j == 0 else 3, 0 if k == 0 else 2)) for j, k in product((0, 1), repeat=2)))

    def test_kinds_of_values(self):
        rows = moves(B, ("moved", (1, 2, 3), B))
        self.assertIs(type(rows), tuple)
        for turn, shift in rows:
            self.assertEqual({type(turn), *map(type, shift)}, {int})
            self.assertIs(type(shift), tuple)
        self.assertEqual(list(rows), sorted(rows))


class TestAgainstOthers(unittest.TestCase):

    def solids(self, chance):
        found = []
        while len(found) < 20:
            cut = ("half", *[chance.randint(-2, 2) for _ in range(3)], chance.randint(-1, 1))
            if any(cut[1:4]):
                inner = packed_solid(chance, 4, 3) if len(found) % 2 else CUBE
                solid = (chance.choice(("both", "cut")), ("box", (-1, -1, -1), (1, 1, 1)), ("both", cut, inner))
                if is_solid(solid) and volume(solid)[0]:
                    found.append(solid)
        return found

    def expected(self, solid, other):
        """Return the pairs: the boxes tell the shifts, and points whether they lead there."""
        low, high = [[number(x) for x in corner] for corner in box(solid)]
        goal, _ = [[number(x) for x in corner] for corner in box(other)]
        for turn in range(48):
            start = [min(pair) for pair in zip(turned_point(turn, low), turned_point(turn, high))]
            shift = [x - y for x, y in zip(goal, start)]
            if all(Fraction(x).denominator == 1 for x in shift):
                shift = tuple(int(x) for x in shift)
                # Few solids that are unlike agree at all of the first points; it only takes less time.
                if self.agree(solid, turn, shift, other, [tuple(x + y for x, y in zip(goal, p)) for p in FEW]):
                    planes = sorted(slow_planes(led(turn, shift, solid)) | slow_planes(other))
                    if self.agree(solid, turn, shift, other, (point for point, _ in samples(planes))):
                        yield turn, shift

    def agree(self, solid, turn, shift, other, points):
        return all(
            holds(solid, unturned(turn, tuple(x - s for x, s in zip(point, shift)))) == holds(other, point)
            for point in points)

    def test_random_solids(self):
        chance = random.Random(111)
        solids = self.solids(chance)
        counts = {}
        for place, solid in enumerate(solids):
            turn, shift = chance.randint(0, 47), tuple(chance.randint(-3, 3) for _ in range(3))
            other = led(turn, shift, solid) if place % 3 else solids[place - 1]
            rows = moves(solid, other)
            self.assertEqual(rows, tuple(self.expected(solid, other)), (solid, other))
            if place % 3:
                self.assertIn((turn, shift), rows)
            counts[min(len(rows), 2)] = counts.get(min(len(rows), 2), 0) + 1
        self.assertGreater(min(counts.values()), 3, counts)
        self.assertEqual(len(counts), 3)

    def test_guarantee_e(self):
        # All turns with all small shifts, tried one by one.
        wedge = ("both", CUBE, ("half", 1, 1, 0, 1))
        other = ("turned", 33, wedge)
        told = set(moves(wedge, other))
        self.assertEqual(len(told), 4)
        for turn in range(48):
            for shift in product((-1, 0, 1), repeat=3):
                self.assertIs(same(led(turn, shift, wedge), other), (turn, shift) in told)


class TestErrors(unittest.TestCase):

    def test_what_is_not_a_solid(self):
        for value in (*WRONG_VALUES, deep(13), wide(41), nested(lambda x: [x], 30, HALF), ("turned", 48, B)):
            for pair in ((value, B), (B, value), (value, value), (value, HALF), (value, NOTHING)):
                with self.subTest(repr(value)[:60]), self.assertRaises(InvalidSolid):
                    moves(*pair)

    def test_each_error_in_turn(self):
        for solid, other, error in (
            (HALF, None, NoBounds), (None, HALF, InvalidSolid), (HALF, HALF, NoBounds), (HALF, B, NoBounds),
            (B, HALF, NoBounds), (B, None, InvalidSolid), (NOTHING, None, InvalidSolid), (NOTHING, HALF, NoBounds),
            (HALF, NOTHING, NoBounds), (SPACE, NOTHING, NoBounds), (NOTHING, SPACE, NoBounds), (NOTHING, B, Blank),
            (B, NOTHING, Blank), (NOTHING, NOTHING, Blank), (("not", B), B, NoBounds), (B, ("not", B), NoBounds),
        ):
            with self.subTest(solid=solid, other=other), self.assertRaises(error):
                moves(solid, other)

    def test_arguments_stay_and_answers_repeat(self):
        for solid, _ in TEXTS:
            kept = copy.deepcopy(solid)
            inner = ("both", B, solid)
            if is_solid(inner) and volume(inner)[0]:
                self.assertEqual(moves(inner, B), moves(inner, B))
            self.assertEqual(solid, kept)


if __name__ == "__main__":
    unittest.main()
