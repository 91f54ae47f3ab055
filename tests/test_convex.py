"""Tests of points 1 (d), 3 and 10: convex solids, their half spaces, and needless parts."""

import copy
import random
import unittest

from solidforms.convex import halves, is_convex, needless_parts
from solidforms.errors import InvalidSolid, NotConvex
from solidforms.forms import is_blank
from solidforms.likeness import same
from solidforms.solids import is_solid
from tests.samples import B, HALF, TEXTS, WRONG_VALUES, deep, nested, packed_solid, slow_planes, wide
from tests.space import height, holds, rooms, samples

NOTHING = ("cut", B, B)
SPACE = ("either", B, ("not", B))
CUBE = ("box", (0, 0, 0), (1, 1, 1))
FRAME = ("box", (-2, -2, -2), (2, 2, 2))
CORNER = ("both", ("half", -1, 0, 0, 0), ("both", ("half", 0, -1, 0, 0), ("half", 0, 0, -1, 0)))
TETRA = ("both", CORNER, ("half", 1, 1, 1, 1))
SLANT = ("half", 1, 1, 1, 0)


def common(rows):
    """Return a solid of what the half spaces (a, b, c, d) have in common; not within the limits."""
    found = ("half", *rows[0])
    for row in rows[1:]:
        found = ("both", ("half", *row), found)
    return found


class ConvexCase(unittest.TestCase):

    def assert_convex(self, solid, rows):
        self.assertIs(is_convex(solid), True)
        self.assertEqual(halves(solid), tuple(rows))

    def assert_not_convex(self, solid):
        self.assertIs(is_convex(solid), False)
        with self.assertRaises(NotConvex):
            halves(solid)


class TestConvexByHand(ConvexCase):

    def test_example(self):
        self.assertEqual(halves(("both", ("half", 1, 0, 0, 2), ("half", 2, 0, 0, 8))), ((1, 0, 0, 2),))

    def test_plain_solids(self):
        self.assert_convex(B, [
            (-1, 0, 0, 0), (0, -1, 0, 0), (0, 0, -1, 0), (0, 0, 1, 3), (0, 1, 0, 2), (1, 0, 0, 1)])
        self.assert_convex(TETRA, [(-1, 0, 0, 0), (0, -1, 0, 0), (0, 0, -1, 0), (1, 1, 1, 1)])
        self.assert_convex(CORNER, [(-1, 0, 0, 0), (0, -1, 0, 0), (0, 0, -1, 0)])
        for half, told in (
            (HALF, (1, 0, 0, 2)), (("not", HALF), (-1, 0, 0, -2)), (("half", 2, 2, 2, 1), (2, 2, 2, 1)),
            (("half", 2, -2, 2, 4), (1, -1, 1, 2)), (("half", 0, -3, 3, 9), (0, -1, 1, 3)),
            (("half", 0, 0, -3, 0), (0, 0, -1, 0)), (("half", -2, 0, 2, -8), (-1, 0, 1, -4)),
            (("half", -3, 3, 0, 8), (-3, 3, 0, 8)), (("moved", (9, 9, 9), ("half", 3, 3, 3, 9)), (1, 1, 1, 30)),
            (("turned", 4, HALF), (-1, 0, 0, 2)),
        ):
            self.assert_convex(half, [told])

    def test_all_of_space_and_nothing(self):
        for solid in (SPACE, ("not", NOTHING), ("either", HALF, ("half", -1, 0, 0, -2))):
            self.assert_convex(solid, ())
        for solid in (NOTHING, ("both", HALF, ("half", -1, 0, 0, -2)), ("both", B, ("moved", (1, 0, 0), B))):
            self.assertIs(is_convex(solid), True)
            with self.assertRaises(NotConvex):
                halves(solid)

    def test_sets_that_hide_it(self):
        box = halves(("box", (0, 0, 0), (2, 1, 1)))
        for solid in (
            ("either", CUBE, ("moved", (1, 0, 0), CUBE)),
            ("not", ("either", ("not", ("box", (0, 0, 0), (2, 1, 1))), ("half", 1, 0, 0, -1))),
            ("cut", ("box", (0, 0, 0), (3, 1, 1)), ("half", -1, 0, 0, -2)),
            ("cut", ("box", (-1, 0, 0), (3, 1, 1)), ("either", ("half", -1, 0, 0, -2), ("half", 1, 0, 0, 0))),
            ("either", ("cut", ("box", (0, 0, 0), (2, 1, 1)), SLANT), ("both", ("box", (0, 0, 0), (2, 1, 1)), SLANT)),
        ):
            self.assert_convex(solid, box)
        self.assert_convex(("cut", HALF, ("cut", HALF, SLANT)), [(1, 0, 0, 2), (1, 1, 1, 0)])
        self.assert_convex(("not", ("either", HALF, SLANT)), [(-1, -1, -1, 0), (-1, 0, 0, -2)])
        # What is left of two pieces that overlap is the first of them.
        self.assert_convex(("either", CUBE, ("both", B, CUBE)), halves(CUBE))

    def test_needless_half_spaces_are_left_out(self):
        for extra in (("half", 1, 1, 1, 6), ("half", 1, 1, 1, 9), ("half", 0, 0, 1, 3), ("half", 2, 1, 0, 4), ("half", 0, 3, 2, 9)):
            rows = halves(("both", B, extra))
            self.assertEqual(rows == halves(B), extra != ("half", 0, 3, 2, 9))
        # Planes that meet the solid in an edge or in a corner alone.
        self.assert_convex(("both", CORNER, ("half", -1, -1, 0, 0)), halves(CORNER))
        self.assert_convex(("both", CORNER, ("half", -1, -1, -1, 0)), halves(CORNER))
        self.assert_convex(("both", CORNER, ("half", -1, -1, -1, -1)), sorted([*halves(CORNER), (-1, -1, -1, -1)]))

    def test_not_convex(self):
        for solid in (
            ("not", B), ("not", TETRA), ("not", CORNER), ("cut", B, CUBE), ("cut", FRAME, TETRA), ("either", B, SLANT),
            ("either", CUBE, ("moved", (2, 0, 0), CUBE)), ("either", HALF, ("half", -1, 0, 0, -3)),
            ("either", HALF, SLANT), ("either", CUBE, ("moved", (1, 1, 0), CUBE)),
            ("either", CUBE, ("box", (1, 0, 0), (2, 2, 1))), ("either", B, ("half", -1, 0, 0, -1)),
            ("either", CORNER, ("turned", 7, CORNER)), ("cut", FRAME, ("both", ("half", 1, 0, 0, 1), ("half", -1, 0, 0, 1))),
        ):
            with self.subTest(solid):
                self.assert_not_convex(solid)

    def test_solids_that_only_touch(self):
        # In a face, an edge or a corner; only in the first case they hang together.
        for shift, convex in (((0, 0, 1), True), ((0, 1, 1), False), ((1, 1, 1), False), ((0, 0, 2), False)):
            self.assertIs(is_convex(("either", CUBE, ("moved", shift, CUBE))), convex)
        self.assert_not_convex(("either", CUBE, ("box", (1, 0, 0), (2, 1, 2))))
        self.assert_convex(("both", CUBE, ("box", (0, 0, 0), (1, 1, 2))), halves(CUBE))

    def test_half_spaces_tell_more_than_planes(self):
        # Of the two rooms between two planes that cross, which lie opposite, each is convex.
        first, second = ("half", 1, 1, 0, 0), ("half", 1, -1, 0, 0)
        self.assert_convex(("both", first, second), [(1, -1, 0, 0), (1, 1, 0, 0)])
        self.assert_convex(("cut", first, second), [(-1, 1, 0, 0), (1, 1, 0, 0)])
        self.assert_not_convex(("either", ("both", first, second), ("not", ("either", first, second))))

    def test_kinds_of_values(self):
        rows = halves(TETRA)
        self.assertIs(type(rows), tuple)
        self.assertEqual({type(row) for row in rows}, {tuple})
        self.assertEqual({type(x) for row in rows for x in row}, {int})


class TestConvexAgainstPoints(ConvexCase):

    def expected(self, solid):
        """Return the fewest half spaces that make the solid, None if there are none."""
        planes = sorted(slow_planes(solid))
        points = [point for point, _ in rooms(planes).values()]
        held = [holds(solid, point) for point in points]
        if not any(held):
            return None
        rows = []
        for plane in planes:
            for row in (plane, tuple(-n for n in plane)):
                if all(height(row, point) < 0 for point, inner in zip(points, held) if inner):
                    rows.append(row)
        if self.held_by(rows, points) != held:
            return None
        for row in list(rows):
            fewer = [other for other in rows if other != row]
            if self.held_by(fewer, points) == held:
                rows = fewer
        return tuple(sorted(rows))

    def held_by(self, rows, points):
        return [all(height(row, point) < 0 for row in rows) for point in points]

    def test_random_solids(self):
        chance = random.Random(101)
        counts = {"convex": 0, "not": 0, "nothing": 0, "hidden": 0}
        for k in range(200):
            solid = packed_solid(chance, 8)
            if k % 3 == 1:
                extra = packed_solid(chance, 4, 3)
                solid = ("either", ("both", solid, extra), ("cut", solid, extra))
            if k % 3 == 2:
                solid = ("cut", ("both", CORNER, packed_solid(chance, 4, 2)), ("half", -1, -1, 0, -2))
            if not is_solid(solid):
                continue
            rows = self.expected(solid)
            if rows is not None:
                self.assert_convex(solid, rows)
                counts["convex"] += 1
                counts["hidden"] += "either" in repr(solid) and len(rows) > 1
            elif is_blank(solid):
                self.assertIs(is_convex(solid), True)
                with self.assertRaises(NotConvex):
                    halves(solid)
                counts["nothing"] += 1
            else:
                self.assert_not_convex(solid)
                counts["not"] += 1
        self.assertGreater(min(counts.values()), 15, counts)

    def test_guarantee_d(self):
        # The half spaces have just the solid in common, and each of them is needed.
        chance = random.Random(102)
        checked = 0
        while checked < 40:
            solid = packed_solid(chance, 9)
            if not is_convex(solid) or is_blank(solid) or len(halves(solid)) < 2:
                continue
            rows = halves(solid)
            if not is_solid(common(rows)):
                continue
            self.assertIs(same(solid, common(rows)), True)
            for row in rows:
                self.assertIs(same(solid, common([other for other in rows if other != row])), False)
            checked += 1


class TestNeedlessByHand(unittest.TestCase):

    def assert_paths(self, solid, *paths):
        self.assertEqual(needless_parts(solid), paths)

    def test_each_word(self):
        wider = ("half", 1, 0, 0, 3)
        self.assert_paths(("both", HALF, wider), ())
        self.assert_paths(("both", wider, HALF))
        self.assert_paths(("either", wider, HALF), ())
        self.assert_paths(("either", HALF, wider))
        self.assert_paths(("cut", HALF, ("not", wider)), ())
        self.assert_paths(("cut", HALF, ("half", -1, 0, 0, -2)), ())
        self.assert_paths(("cut", HALF, wider))
        self.assert_paths(("both", HALF, HALF), ())
        self.assert_paths(("either", HALF, HALF), ())
        self.assert_paths(("cut", HALF, HALF))

    def test_none(self):
        for solid in (B, HALF, ("not", HALF), ("moved", (1, 0, 0), B), ("turned", 3, B), TETRA, CORNER,
                      ("cut", FRAME, SLANT), ("either", FRAME, SLANT), ("both", FRAME, SLANT)):
            self.assert_paths(solid)

    def test_only_both_either_and_cut(self):
        # A "not" within a "not", a move by 0 and a turn by 0 could go, too, but they are none of these.
        for solid in (("not", ("not", B)), ("moved", (0, 0, 0), B), ("turned", 0, B)):
            self.assert_paths(solid)

    def test_nested(self):
        part = ("both", B, HALF)
        self.assert_paths(part, ())
        self.assert_paths(("not", part), (1,))
        self.assert_paths(("moved", (9, 9, 9), part), (2,))
        self.assert_paths(("turned", 11, part), (2,))
        self.assert_paths(("either", part, ("half", 1, 1, 1, -9)), (1,))
        self.assert_paths(("either", ("half", 1, 1, 1, -9), part), (2,))
        self.assert_paths(("cut", FRAME, ("not", ("moved", (-1, -1, -1), part))), (2, 1, 2))
        self.assert_paths(("turned", 5, ("not", ("moved", (1, 2, 3), ("not", part)))), (2, 1, 2, 1))

    def test_what_is_needless_in_its_place_alone(self):
        # Cut by z <= 0 the cube stays what it is, only where all lies above it.
        below = ("half", 0, 0, 1, 0)
        self.assert_paths(("cut", FRAME, below))
        self.assert_paths(("both", CUBE, ("cut", FRAME, below)), (), (2,))
        self.assert_paths(("cut", ("cut", FRAME, below), ("not", CUBE)), (1,))
        self.assert_paths(("either", CUBE, ("cut", FRAME, CUBE)), (2,))
        self.assert_paths(("both", NOTHING, ("either", B, SLANT)), (), (2,))

    def test_moves_and_turns_count(self):
        # Moved by 1, the first half space ends where the second one does.
        first = ("moved", (1, 0, 0), ("half", 1, 0, 0, 1))
        self.assert_paths(("both", first, HALF), ())
        self.assert_paths(("both", ("moved", (2, 0, 0), ("half", 1, 0, 0, 1)), HALF))
        # The turn with the number 4 makes x negative.
        self.assert_paths(("cut", HALF, ("turned", 4, ("half", 1, 0, 0, -2))), ())
        self.assert_paths(("cut", HALF, ("turned", 0, ("half", 1, 0, 0, -2))))
        self.assert_paths(("moved", (9, 9, 9), ("both", HALF, ("half", 1, 0, 0, 5))), (2,))

    def test_each_by_itself_but_not_all(self):
        # What is taken away twice is still taken away once, but not if both go.
        solid = ("both", ("both", FRAME, SLANT), SLANT)
        self.assert_paths(solid, (), (1,))
        self.assertIs(same(solid, FRAME), False)
        self.assertIs(same(solid, ("both", FRAME, SLANT)), True)
        twice = ("either", ("either", CUBE, B), B)
        self.assert_paths(twice, (), (1,))
        cut = ("cut", ("cut", FRAME, CUBE), CUBE)
        self.assert_paths(cut, (), (1,))

    def test_the_first_solid_stays(self):
        blank = ("both", HALF, ("half", -1, 0, 0, -3))
        self.assert_paths(("either", blank, B))
        self.assert_paths(("either", B, blank), ())
        self.assert_paths(("both", ("not", blank), B))
        self.assert_paths(("both", B, ("not", blank)), ())
        # The two of SPACE and NOTHING begin with B, which is enough here.
        self.assert_paths(("either", NOTHING, B), (1,))
        self.assert_paths(("both", SPACE, B), (1,))
        self.assert_paths(("both", B, SPACE), (), (2,))

    def test_sorted_as_python_sorts(self):
        needless = ("both", B, HALF)
        solid = ("either", ("both", needless, needless), ("not", needless))
        self.assert_paths(solid, (1,), (1, 1), (1, 2), (2, 1))
        self.assertEqual(sorted(needless_parts(solid)), list(needless_parts(solid)))

    def test_planes_alone_do_not_count(self):
        # The points of the plane x = 2 are no more than points of a plane.
        plane = ("both", HALF, ("half", -1, 0, 0, -2))
        self.assert_paths(("cut", HALF, plane), ())
        self.assert_paths(("either", HALF, plane), (), (2,))
        self.assert_paths(("both", ("not", HALF), ("not", plane)), (), (2, 1))

    def test_kinds_of_values(self):
        paths = needless_parts(("both", ("both", B, HALF), HALF))
        self.assertEqual({type(path) for path in paths}, {tuple})
        self.assertEqual({type(place) for path in paths for place in path}, {int})


class TestNeedlessAgainstPoints(unittest.TestCase):

    def paths_of(self, solid):
        yield ()
        for place, part in enumerate(solid):
            if isinstance(part, tuple) and isinstance(part[0], str):
                for path in self.paths_of(part):
                    yield (place, *path)

    def part_at(self, solid, path):
        for place in path:
            solid = solid[place]
        return solid

    def replaced(self, solid, path):
        if not path:
            return solid[1]
        return tuple(self.replaced(part, path[1:]) if place == path[0] else part for place, part in enumerate(solid))

    def random_solid(self, chance, depth):
        """Return a solid of few planes that stand in it again and again."""
        if depth <= 1:
            return chance.choice((HALF, SLANT, ("half", 1, 0, 0, 1), ("half", -1, 1, 0, 0)))
        word = chance.choice(("both", "either", "cut", "both", "either", "cut", "not", "moved", "turned"))
        first = self.random_solid(chance, depth - 1)
        if word == "not":
            return (word, first)
        if word == "moved":
            return (word, (0, chance.randint(0, 1), 0), first)
        if word == "turned":
            return (word, chance.choice((0, 4)), first)
        return (word, first, self.random_solid(chance, depth - chance.randint(1, depth - 1)))

    def expected(self, solid):
        points = [point for point, _ in samples(sorted(slow_planes(solid)))]
        held = [holds(solid, point) for point in points]
        for path in sorted(self.paths_of(solid)):
            if self.part_at(solid, path)[0] in ("both", "either", "cut"):
                less = self.replaced(solid, path)
                if [holds(less, point) for point in points] == held:
                    yield path

    def test_random_solids(self):
        chance = random.Random(103)
        counts = {}
        for _ in range(150):
            solid = self.random_solid(chance, chance.randint(1, 5))
            paths = tuple(self.expected(solid))
            self.assertEqual(needless_parts(solid), paths, solid)
            counts[min(len(paths), 3)] = counts.get(min(len(paths), 3), 0) + 1
        for _ in range(40):
            solid = packed_solid(chance, 6, 6)
            self.assertEqual(needless_parts(solid), tuple(self.expected(solid)), solid)
        self.assertGreater(min(counts.values()), 6, counts)
        self.assertEqual(len(counts), 4)


class TestErrors(unittest.TestCase):

    def test_what_is_not_a_solid(self):
        for value in (*WRONG_VALUES, deep(13), wide(41), nested(lambda x: [x], 30, HALF), ("turned", 48, B)):
            for function in (is_convex, halves, needless_parts):
                with self.subTest(function.__name__), self.assertRaises(InvalidSolid):
                    function(value)

    def test_arguments_stay_and_answers_repeat(self):
        for solid, _ in TEXTS:
            kept = copy.deepcopy(solid)
            self.assertIs(is_convex(solid), is_convex(kept))
            self.assertEqual(needless_parts(solid), needless_parts(kept))
            if is_convex(solid):
                self.assertEqual(halves(solid), halves(kept))
            self.assertEqual(solid, kept)


if __name__ == "__main__":
    unittest.main()
