"""Tests of points 2.1 to 2.4, 3 and 4: is_solid and count_planes."""

import copy
import random
import unittest

from solidforms.errors import InvalidSolid
from solidforms.solids import count_planes, is_solid
from tests.samples import (
    B, HALF, TEXTS, WRONG_VALUES, deep, joined, left_deep, nested, random_solid, slow_planes,
    turned_point, wide,
)


class SolidCase(unittest.TestCase):

    def assert_solid(self, value):
        self.assertIs(is_solid(value), True, value)
        self.assertEqual(count_planes(value), len(slow_planes(value)))

    def assert_no_solid(self, value):
        self.assertIs(is_solid(value), False, value)
        with self.assertRaises(InvalidSolid):
            count_planes(value)


class TestKinds(SolidCase):

    def test_each_kind(self):
        for solid, _ in TEXTS:
            with self.subTest(solid):
                self.assert_solid(solid)

    def test_wrong_values(self):
        for value in WRONG_VALUES:
            with self.subTest(repr(value)):
                self.assert_no_solid(value)

    def test_wrong_values_in_the_place_of_a_solid(self):
        for value in WRONG_VALUES:
            for outer in (
                ("not", value), ("both", value, HALF), ("both", HALF, value),
                ("either", value, HALF), ("either", HALF, value), ("cut", value, HALF),
                ("cut", HALF, value), ("moved", (0, 0, 0), value), ("turned", 0, value),
                ("not", ("not", value)), ("either", HALF, ("turned", 3, value)),
            ):
                with self.subTest(repr(outer)):
                    self.assert_no_solid(outer)

    def test_every_place_of_each_kind_with_wrong_values(self):
        kinds = (HALF, B, ("both", HALF, B), ("not", HALF), ("moved", (1, 2, 3), B), ("turned", 5, HALF))
        for solid in kinds:
            for place in range(len(solid)):
                for value in (None, True, "", "1", 0.0, 1.0, [], {}, (), (1, 2), (1, 2, 3, 4), [1, 2, 3]):
                    changed = (*solid[:place], value, *solid[place + 1:])
                    with self.subTest(repr(changed)):
                        self.assert_no_solid(changed)

    def test_wrong_words(self):
        for word in ("Half", "half ", " half", "hal", "halves", "", b"half", "box", "not", None, 0, ("half",)):
            with self.subTest(repr(word)):
                self.assert_no_solid((word, 1, 0, 0, 2))
        for word in ("or", "and", "BOTH", "either ", "half", "box", "not", "moved", "turned"):
            with self.subTest(word):
                self.assert_no_solid((word, HALF, HALF))

    def test_wrong_lengths(self):
        for solid, _ in TEXTS:
            with self.subTest(solid):
                self.assert_no_solid(solid[:-1])
                self.assert_no_solid(solid[:1])
                self.assert_no_solid(solid[1:])
                self.assert_no_solid((*solid, solid[-1]))
                self.assert_no_solid((*solid, 0))
                self.assert_no_solid((*solid, HALF))
                self.assert_no_solid((*solid, None))
                self.assert_no_solid(list(solid))

    def test_lists_in_the_place_of_tuples(self):
        self.assert_no_solid(("box", [0, 0, 0], (1, 2, 3)))
        self.assert_no_solid(("box", (0, 0, 0), [1, 2, 3]))
        self.assert_no_solid(("moved", [0, 0, 0], HALF))
        self.assert_no_solid(("not", list(HALF)))

    def test_nested_values(self):
        wraps = (
            lambda x: [x], lambda x: (x,), lambda x: {0: x}, lambda x: ("not", x),
            lambda x: ["not", x], lambda x: ("both", x, x), lambda x: ("moved", x, x),
            lambda x: ("turned", x, HALF), lambda x: ("box", x, (x, x, x)), lambda x: (x, x),
        )
        for wrap in wraps:
            for core in (None, True, 1.5, "half", HALF):
                for depth in (13, 20, 30):
                    value = nested(wrap, depth, core)
                    self.assertIs(is_solid(value), False)
                    with self.assertRaises(InvalidSolid):
                        count_planes(value)

    def test_any_value_however_deep(self):
        self.assertIs(is_solid(nested(lambda x: ("not", x), 10 ** 5, HALF)), False)
        self.assertIs(is_solid(nested(lambda x: ("both", x, x), 10 ** 5, HALF)), False)
        self.assertIs(is_solid(nested(lambda x: (x,), 10 ** 5, "not")), False)
        self.assertIs(is_solid(("half",) * 10 ** 6), False)
        ring = []
        ring.append(("not", ring))
        self.assertIs(is_solid(ring[0]), False)


class TestNumbers(SolidCase):

    def test_factors_of_half_spaces(self):
        for place in (1, 2, 3):
            for number in range(-6, 7):
                half = ["half", 1, 1, 1, 0]
                half[place] = number
                with self.subTest(half):
                    check = self.assert_solid if -3 <= number <= 3 else self.assert_no_solid
                    check(tuple(half))

    def test_levels_of_half_spaces(self):
        for level in (-9, -8, 0, 8, 9):
            self.assert_solid(("half", 0, 0, 1, level))
        for level in (-10, 10, 11, -11, 10 ** 5000, -10 ** 5000):
            self.assert_no_solid(("half", 0, 0, 1, level))

    def test_factors_that_are_all_0(self):
        for level in (-1, 0, 1):
            self.assert_no_solid(("half", 0, 0, 0, level))
        for factors in ((1, 0, 0), (0, 1, 0), (0, 0, 1), (-1, 0, 0), (0, -1, 0), (0, 0, -1)):
            self.assert_solid(("half", *factors, 0))

    def test_corners_of_boxes(self):
        for place in range(3):
            for low in range(-11, 12):
                for high in range(-11, 12):
                    corners = [[-1, -1, -1], [1, 1, 1]]
                    corners[0][place], corners[1][place] = low, high
                    box = ("box", tuple(corners[0]), tuple(corners[1]))
                    self.assertIs(is_solid(box), -9 <= low < high <= 9, box)
        self.assert_solid(("box", (-9, -9, -9), (9, 9, 9)))
        self.assert_solid(("box", (-9, -9, -9), (-8, -8, -8)))
        self.assert_no_solid(("box", (0, 0, 0), (0, 0, 0)))
        self.assert_no_solid(("box", (1, 2, 3), (0, 0, 0)))
        self.assert_no_solid(("box", (0, 0, 0), (1, 2, 3, 4)))
        self.assert_no_solid(("box", (0, 0), (1, 2, 3)))
        self.assert_no_solid(("box", (), ()))

    def test_shifts(self):
        for place in range(3):
            for number in range(-12, 13):
                shift = [0, 0, 0]
                shift[place] = number
                check = self.assert_solid if -9 <= number <= 9 else self.assert_no_solid
                check(("moved", tuple(shift), HALF))
        for shift in ((), (0,), (0, 0), (0, 0, 0, 0), 0, "000", None, HALF):
            self.assert_no_solid(("moved", shift, HALF))

    def test_turns(self):
        for number in range(-3, 60):
            check = self.assert_solid if 0 <= number <= 47 else self.assert_no_solid
            check(("turned", number, HALF))
        for number in (10 ** 30, -47, (0,), "0", None, 0.0):
            self.assert_no_solid(("turned", number, HALF))

    def test_booleans_are_no_integers(self):
        for value in (True, False):
            self.assert_no_solid(("half", value, 1, 1, 1))
            self.assert_no_solid(("half", 1, value, 1, 1))
            self.assert_no_solid(("half", 1, 1, value, 1))
            self.assert_no_solid(("half", 1, 1, 1, value))
            self.assert_no_solid(("turned", value, HALF))
            for place in range(3):
                row = [0, 0, 0]
                row[place] = value
                self.assert_no_solid(("moved", tuple(row), HALF))
                self.assert_no_solid(("box", tuple(row), (2, 2, 2)))
                row = [1, 1, 1]
                row[place] = value
                self.assert_no_solid(("box", (-1, -1, -1), tuple(row)))
        self.assert_no_solid(("not", ("turned", True, HALF)))

    def test_floats_are_no_integers(self):
        self.assert_no_solid(("half", 1.0, 0, 0, 2))
        self.assert_no_solid(("half", 1, 0, 0, 2.0))
        self.assert_no_solid(("turned", 1.0, HALF))
        self.assert_no_solid(("box", (0, 0, 0.0), (1, 1, 1)))
        self.assert_no_solid(("moved", (0, 0.0, 0), HALF))


class TestDepth(SolidCase):

    def test_12_and_13_deep(self):
        for build in (deep, left_deep):
            for depth in range(1, 13):
                self.assert_solid(build(depth))
            for depth in (13, 14, 20, 30):
                self.assert_no_solid(build(depth))

    def test_each_word_adds_to_the_depth(self):
        outers = (
            lambda s: ("not", s), lambda s: ("moved", (0, 0, 0), s), lambda s: ("turned", 0, s),
            lambda s: ("both", s, HALF), lambda s: ("both", HALF, s), lambda s: ("either", s, HALF),
            lambda s: ("either", HALF, s), lambda s: ("cut", s, HALF), lambda s: ("cut", HALF, s),
        )
        for outer in outers:
            self.assert_solid(outer(deep(11)))
            self.assert_no_solid(outer(deep(12)))

    def test_a_box_is_1_deep(self):
        self.assert_solid(deep(12, B))
        self.assert_no_solid(deep(13, B))


class TestMany(SolidCase):

    def test_40_and_41_solids(self):
        for many in (1, 2, 3, 38, 39, 40):
            self.assert_solid(wide(many))
        for many in (41, 42, 43, 60, 100, 1001):
            self.assert_no_solid(wide(many))

    def test_boxes_count_as_one_solid(self):
        self.assert_solid(wide(40, B))
        self.assert_no_solid(wide(41, B))

    def test_moves_and_turns_count(self):
        rest = wide(37)
        self.assert_solid(("moved", (0, 0, 0), ("turned", 0, ("not", rest))))
        self.assert_no_solid(("not", ("moved", (0, 0, 0), ("turned", 0, ("not", rest)))))
        self.assert_no_solid(("either", HALF, ("not", wide(38))))
        self.assert_solid(("either", HALF, ("not", wide(37))))

    def test_very_many_solids_in_little_space(self):
        self.assert_no_solid(nested(lambda x: ("both", x, x), 11, HALF))


class TestPlanes(SolidCase):

    TWELVE = ("both", B, ("box", (-9, -9, -9), (9, 9, 9)))

    def test_known_counts(self):
        for solid, many in (
            (B, 6), (HALF, 1), (("not", B), 6), (("both", B, B), 6), (self.TWELVE, 12),
            (("both", HALF, ("half", 2, 0, 0, 2)), 2),
            (("both", HALF, ("half", 2, 0, 0, 4)), 1),
            (("both", HALF, ("half", -1, 0, 0, -2)), 1),
            (("both", HALF, ("half", -1, 0, 0, 2)), 2),
            (("both", HALF, ("half", -3, 0, 0, -6)), 1),
            (("both", ("half", 3, -3, 0, 9), ("half", -1, 1, 0, -3)), 1),
            (("both", ("half", 2, 2, 2, 1), ("half", 1, 1, 1, 0)), 2),
            (("both", ("half", 0, -2, 2, 0), ("half", 0, 3, -3, 0)), 1),
            (("both", B, ("half", 0, 0, -2, -6)), 6),
            (("both", B, ("box", (1, 2, 3), (2, 3, 4))), 9),
            (("both", B, ("box", (-1, -1, -1), (0, 0, 0))), 9),
            (("both", B, ("box", (-1, -2, -3), (2, 1, 4))), 12),
        ):
            with self.subTest(solid):
                self.assertEqual(count_planes(solid), many)
                self.assert_solid(solid)

    def test_12_and_13_planes(self):
        self.assert_solid(("both", self.TWELVE, ("half", 1, 0, 0, 0)))
        self.assert_solid(("both", ("half", 0, 0, -3, -9), self.TWELVE))
        self.assert_no_solid(("both", self.TWELVE, ("half", 1, 0, 0, 5)))
        self.assert_no_solid(("both", ("half", 1, 1, 0, 0), self.TWELVE))
        halves = [("half", 0, 0, 1, level) for level in range(-6, 7)]
        self.assert_solid(joined(halves[:12]))
        self.assert_solid(joined(halves[1:] + [("half", 0, 0, -1, -1)]))
        self.assert_no_solid(joined(halves))

    def test_planes_that_no_face_lies_in_count(self):
        self.assert_no_solid(("both", ("cut", HALF, HALF), ("both", self.TWELVE, ("half", 1, 1, 1, 0))))

    def test_planes_meet_after_moves(self):
        late = ("moved", (1, 1, 1), ("moved", (0, 0, -1), ("half", 1, 1, 1, 0)))
        self.assertEqual(count_planes(("either", late, ("half", 1, 1, 1, 2))), 1)
        self.assertEqual(count_planes(("either", late, ("half", 1, 1, 1, 3))), 2)
        moved = ("moved", (5, 0, 0), ("half", 1, 0, 0, 4))
        self.assert_solid(("both", self.TWELVE, moved))
        self.assert_no_solid(("both", self.TWELVE, ("moved", (6, 0, 0), ("half", 1, 0, 0, 4))))
        self.assertEqual(count_planes(("both", B, ("moved", (1, 2, 3), B))), 9)
        self.assertEqual(count_planes(("both", B, ("moved", (0, 0, 0), B))), 6)
        self.assertEqual(count_planes(("both", B, ("moved", (1, 0, 0), B))), 7)
        self.assertEqual(count_planes(("moved", (9, 9, 9), ("half", 2, 2, 2, 1))), 1)

    def test_levels_go_beyond_9_by_moves(self):
        far = nested(lambda s: ("moved", (9, 9, 9), s), 11, ("half", 3, 3, 3, 9))
        self.assert_solid(far)
        self.assert_solid(("moved", (9, 9, 9), ("box", (-9, -9, -9), (9, 9, 9))))

    def test_twelve_planes_by_moves_of_one_half_space(self):
        moved = [("moved", (k, 0, 0), HALF) for k in range(-9, 4)]
        self.assert_solid(joined(moved[:12]))
        self.assert_no_solid(joined(moved))

    def test_planes_meet_after_turns(self):
        # The turn 24 leads (x0, x1, x2) to (x1, x2, x0), so x <= 2 to z <= 2.
        turned = ("turned", 24, HALF)
        self.assertEqual(count_planes(("either", turned, ("half", 0, 0, 1, 2))), 1)
        self.assertEqual(count_planes(("either", turned, ("half", 0, 1, 0, 2))), 2)
        self.assertEqual(count_planes(("either", turned, HALF)), 2)
        # The turn 4 makes x its negative: x <= 2 becomes -x <= 2.
        self.assertEqual(count_planes(("either", ("turned", 4, HALF), ("half", -1, 0, 0, 2))), 1)
        self.assertEqual(count_planes(("either", ("turned", 4, HALF), HALF)), 2)
        self.assertEqual(count_planes(("either", ("turned", 2, HALF), HALF)), 1)
        # The turn 28 leads (x0, x1, x2) to (-x1, x2, x0): the sign comes last.
        self.assertEqual(count_planes(("either", ("turned", 28, ("half", 0, 1, 0, 2)), ("half", -1, 0, 0, 2))), 1)
        self.assertEqual(count_planes(("both", B, ("turned", 7, B))), 9)
        self.assert_solid(("both", self.TWELVE, ("turned", 4, ("half", 1, 0, 0, -1))))
        self.assert_no_solid(("both", self.TWELVE, ("turned", 4, ("half", 1, 0, 0, 1))))

    def test_moves_and_turns_in_their_order(self):
        inner_move = ("turned", 24, ("moved", (1, 0, 0), HALF))
        self.assertEqual(count_planes(("either", inner_move, ("half", 0, 0, 1, 3))), 1)
        inner_turn = ("moved", (1, 0, 0), ("turned", 24, HALF))
        self.assertEqual(count_planes(("either", inner_turn, ("half", 0, 0, 1, 2))), 1)
        self.assertEqual(count_planes(("either", inner_turn, inner_move)), 2)
        inner_move = ("turned", 4, ("moved", (1, 0, 0), HALF))
        self.assertEqual(count_planes(("either", inner_move, ("half", 1, 0, 0, -3))), 1)
        inner_turn = ("moved", (1, 0, 0), ("turned", 4, HALF))
        self.assertEqual(count_planes(("either", inner_turn, ("half", 1, 0, 0, -1))), 1)

    def test_all_48_turns(self):
        half = ("half", 1, 2, 3, 2)
        corners = ((2, 0, 0), (0, 1, 0), (1, -1, 1))
        signed = [turned_point(number, (1, 2, 3)) for number in range(48)]
        self.assertEqual(len(set(signed)), 48)
        for number in range(48):
            points = [turned_point(number, corner) for corner in corners]
            for factors in signed:
                alike = all(sum(f * x for f, x in zip(factors, point)) == 2 for point in points)
                pair = ("either", ("turned", number, half), ("half", *factors, 2))
                self.assertEqual(count_planes(pair), 1 if alike else 2, (number, factors))

    def test_against_points_led_along(self):
        chance = random.Random(20261119)
        solids = 0
        for _ in range(1500):
            value = random_solid(chance, chance.randint(1, 7), chance.random() < 0.8)
            planes = len(slow_planes(value))
            if is_solid(value):
                solids += 1
                self.assertEqual(count_planes(value), planes, value)
            else:
                self.assertTrue(planes > 12 or repr(value).count("'") > 80, value)
        self.assertGreater(solids, 500)


class TestArguments(SolidCase):

    def test_arguments_stay_and_answers_repeat(self):
        for value in ([1, [2, {"half": [HALF]}]], {"not": [HALF]}, ("not", ["half", 1, 0, 0, [2]])):
            kept = copy.deepcopy(value)
            self.assertIs(is_solid(value), False)
            self.assertIs(is_solid(value), False)
            with self.assertRaises(InvalidSolid):
                count_planes(value)
            self.assertEqual(value, kept)
        for solid, _ in TEXTS:
            kept = copy.deepcopy(solid)
            self.assertEqual(count_planes(solid), count_planes(copy.deepcopy(solid)))
            self.assertEqual(solid, kept)

    def test_an_equal_value_seen_earlier_changes_nothing(self):
        self.assertIs(is_solid(("half", 1, 0, 0, 1)), True)
        self.assertIs(is_solid(("half", True, 0, 0, 1)), False)
        self.assertIs(is_solid(("half", 1.0, 0, 0, 1)), False)
        self.assertIs(is_solid(("half", 1, 0, 0, 1)), True)


if __name__ == "__main__":
    unittest.main()
