"""Tests of points 1 (f), 3 and 4: format_solid and parse_solid."""

import copy
import random
import string
import unittest

from solidforms.errors import InvalidSolid, InvalidText
from solidforms.solids import is_solid
from solidforms.texts import format_solid, parse_solid
from tests.samples import (
    B, HALF, TEXTS, WRONG_VALUES, deep, joined, left_deep, nested, plain_read, plain_text,
    random_solid, wide,
)

SIGNS = string.printable + "\0\x1c\x85\xa0\u00b2\u0661\u2212\u2003\uff11\ud800\U0001d7cf"


class TextCase(unittest.TestCase):

    def assert_wrong(self, text):
        with self.assertRaises(InvalidText):
            parse_solid(text)

    def assert_told(self, solid, text):
        self.assertEqual(format_solid(solid), text)
        self.assertEqual(parse_solid(text), solid)
        self.assertIs(is_solid(parse_solid(text)), True)


class TestFormat(TextCase):

    def test_each_kind(self):
        for solid, text in TEXTS:
            with self.subTest(text):
                self.assert_told(solid, text)
                self.assertIs(type(format_solid(solid)), str)

    def test_every_number(self):
        for level in range(-9, 10):
            self.assert_told(("half", 0, -1, 0, level), f"half 0,-1,0,{level}")
            self.assert_told(("moved", (0, level, 0), HALF), f"moved 0,{level},0 (half 1,0,0,2)")
        for factor in range(-3, 4):
            self.assert_told(("half", factor, 1, factor, 0), f"half {factor},1,{factor},0")
        for low in range(-9, 9):
            self.assert_told(("box", (low, 0, 0), (9, 1, 1)), f"box {low},0,0 9,1,1")
            self.assert_told(("box", (-9, 0, 0), (low + 1, 1, 1)), f"box -9,0,0 {low + 1},1,1")
        for number in range(48):
            self.assert_told(("turned", number, HALF), f"turned {number} (half 1,0,0,2)")

    def test_deepest_and_most(self):
        for solid in (deep(12), left_deep(12), wide(40), wide(39, B)):
            self.assert_told(solid, plain_text(solid))

    def test_random_solids(self):
        chance = random.Random(4)
        for _ in range(1000):
            solid = random_solid(chance, chance.randint(1, 6))
            if is_solid(solid):
                self.assert_told(solid, plain_text(solid))

    def test_unlike_solids_have_unlike_texts(self):
        pairs = (
            (("both", HALF, B), ("both", B, HALF)),
            (("not", ("both", HALF, B)), ("both", ("not", HALF), B)),
            (("both", ("both", HALF, B), B), ("both", HALF, ("both", B, B))),
        )
        for first, second in pairs:
            self.assertNotEqual(format_solid(first), format_solid(second))

    def test_what_is_not_a_solid(self):
        for value in (
            *WRONG_VALUES, deep(13), left_deep(13), wide(41), ("half", 0, 0, 0, 1),
            ("half", 4, 0, 0, 0), ("half", 1, 0, 0, 10), ("half", True, 0, 0, 1),
            ("box", (0, 0, 0), (1, 0, 1)), ("turned", 48, HALF), ("moved", (10, 0, 0), HALF),
            joined([("half", 1, 0, 0, k) for k in range(-6, 7)]),
            nested(lambda x: [x], 30, HALF), nested(lambda x: ("not", x), 30, HALF),
        ):
            with self.subTest(repr(value)[:80]), self.assertRaises(InvalidSolid):
                format_solid(value)

    def test_arguments_stay(self):
        for solid, text in TEXTS:
            kept = copy.deepcopy(solid)
            self.assertEqual(format_solid(solid), format_solid(copy.deepcopy(solid)))
            self.assertEqual(solid, kept)
            self.assertEqual(parse_solid(text), parse_solid(text))


class TestWrongTexts(TextCase):

    def check(self, text):
        """The text leads to the solid whose text it is, or there is none."""
        wanted = plain_read(text)
        if wanted is not None and is_solid(wanted) and plain_text(wanted) == text:
            self.assertEqual(parse_solid(text), wanted)
            self.assertEqual(format_solid(parse_solid(text)), text)
        else:
            self.assert_wrong(text)

    def test_one_sign_left_out(self):
        for _, text in TEXTS:
            for at in range(len(text)):
                self.check(text[:at] + text[at + 1:])

    def test_one_sign_doubled(self):
        for _, text in TEXTS:
            for at in range(len(text)):
                self.check(text[:at + 1] + text[at:])

    def test_one_sign_put_in(self):
        for _, text in TEXTS:
            for at in range(len(text) + 1):
                for sign in SIGNS:
                    self.check(text[:at] + sign + text[at:])

    def test_one_sign_replaced(self):
        for _, text in TEXTS:
            for at in range(len(text)):
                for sign in SIGNS:
                    self.check(text[:at] + sign + text[at + 1:])

    def test_beginnings_and_ends(self):
        for _, text in TEXTS:
            for at in range(len(text)):
                self.check(text[:at])
                self.check(text[at:])

    def test_known_wrong_texts(self):
        for text in (
            "", " ", "\n", "()", "(", ")", ",", "-", "0", "half", "half ", "half 1,0,0", "half 1,0,0,",
            "half 1,0,0,2,", "half 1,0,0,2,3", "half 1 0 0 2", "half  1,0,0,2", " half 1,0,0,2",
            "half 1,0,0,2 ", "half 1,0,0,2\n", "\nhalf 1,0,0,2", "(half 1,0,0,2)", "half (1,0,0,2)",
            "half 1, 0,0,2", "half +1,0,0,2", "half 01,0,0,2", "half 1,-0,0,2", "half 1,0,00,2",
            "half --1,0,0,2", "half -,0,0,2", "half 1,0,0,-", "half ,0,0,2", "half 1,,0,2",
            "half 1.0,0,0,2", "half 1_0,0,0,2", "half 1e0,0,0,2", "half 0x1,0,0,2", "Half 1,0,0,2",
            "HALF 1,0,0,2", "half\t1,0,0,2", "half True,0,0,2", "half 1,0,0,\u0662",
            "box 0,0,0 1,2", "box 0,0,0,1,2,3", "box 0,0,0  1,2,3", "box (0,0,0) (1,2,3)", "box 0,0,0",
            "box 0,0,0 1,2,3 4,5,6", "not half 1,0,0,2", "not(half 1,0,0,2)", "not ((half 1,0,0,2))",
            "not (half 1,0,0,2", "not (half 1,0,0,2))", "not ( half 1,0,0,2)", "not (half 1,0,0,2 )",
            "not (half 1,0,0,2) (half 1,0,0,2)", "not ()", "not", "both (half 1,0,0,2)",
            "both (half 1,0,0,2)(half 1,0,0,2)", "both (half 1,0,0,2),(half 1,0,0,2)",
            "both (half 1,0,0,2) half 1,0,0,2", "both (half 1,0,0,2) (half 1,0,0,2) (half 1,0,0,2)",
            "moved 1,2 (half 1,0,0,2)", "moved (1,2,3) (half 1,0,0,2)", "moved 1,2,3,4 (half 1,0,0,2)",
            "moved 1,2,3(half 1,0,0,2)", "moved (half 1,0,0,2) 1,2,3", "turned (half 1,0,0,2)",
            "turned 1", "turned 1(half 1,0,0,2)", "turned 01 (half 1,0,0,2)", "turned 1,2 (half 1,0,0,2)",
            "turned -0 (half 1,0,0,2)", "turned 00 (half 1,0,0,2)", "cut (half 1,0,0,2) ()",
            "('half', 1, 0, 0, 2)", "neither (half 1,0,0,2) (half 1,0,0,2)", "nothalf 1,0,0,2",
        ):
            with self.subTest(text):
                self.assert_wrong(text)

    def test_values_that_are_no_strings(self):
        for value in (
            None, True, False, 0, 5, 0.5, b"half 1,0,0,2", bytearray(b"half 1,0,0,2"), HALF, B, (), [],
            ["half 1,0,0,2"], ("half 1,0,0,2",), {}, {"half 1,0,0,2": 1}, object(), str,
            nested(lambda x: [x], 30, "half 1,0,0,2"), nested(lambda x: (x,), 30, None),
            nested(lambda x: {"not": x}, 30, 1.5),
        ):
            with self.subTest(repr(value)):
                self.assert_wrong(value)


class TestBounds(TextCase):

    def test_numbers_out_of_bounds(self):
        for text in (
            "half 4,0,0,0", "half 0,-4,0,0", "half 0,0,10,0", "half 1,0,0,10", "half 1,0,0,-10",
            "half 0,0,0,0", "half 0,0,0,5", "box 0,0,0 10,1,1", "box -10,0,0 1,1,1", "box 1,0,0 1,1,1",
            "box 0,2,0 1,1,1", "box 0,0,0 1,1,0", "moved 10,0,0 (half 1,0,0,2)",
            "moved 0,0,-10 (half 1,0,0,2)", "turned 48 (half 1,0,0,2)", "turned -1 (half 1,0,0,2)",
            "turned 99 (half 1,0,0,2)", "turned 100 (half 1,0,0,2)", "turned 470 (half 1,0,0,2)",
            "not (half 1,0,0,10)", "either (half 1,0,0,2) (half 0,0,0,1)",
        ):
            with self.subTest(text):
                self.assert_wrong(text)

    def test_too_deep(self):
        self.assert_told(deep(12), plain_text(deep(12)))
        for depth in (13, 14, 30, 200):
            self.assert_wrong(plain_text(deep(depth)))
            self.assert_wrong(plain_text(left_deep(depth)))

    def test_too_many_solids(self):
        self.assert_told(wide(40), plain_text(wide(40)))
        for many in (41, 42, 101, 1001):
            self.assert_wrong(plain_text(wide(many)))
        self.assert_wrong(plain_text(nested(lambda x: ("both", x, x), 11, HALF)))

    def test_too_many_planes(self):
        halves = [("half", 1, 0, 0, k) for k in range(-6, 7)]
        self.assert_told(joined(halves[1:]), plain_text(joined(halves[1:])))
        self.assert_wrong(plain_text(joined(halves)))
        boxes = ("both", B, ("box", (-9, -9, -9), (9, 9, 9)))
        same = ("both", boxes, ("moved", (1, 0, 0), HALF))
        self.assert_wrong(plain_text(same))
        same = ("both", boxes, ("moved", (7, 0, 0), HALF))
        self.assert_told(same, plain_text(same))


class TestLongTexts(TextCase):

    MANY = 10 ** 6

    def test_brackets(self):
        many = self.MANY
        for text in (
            "(" * many, ")" * many, "()" * many, "(" * many + ")" * many, " (" * many, " ()" * many,
            "not (" * many, "not (" * many + "half 1,0,0,2" + ")" * many, "not (" * 12 + ")" * many,
            "both (" * many, "both (half 1,0,0,2) (" * many, "both" + " (half 1,0,0,2)" * many,
            "not (half 1,0,0,2" + ")" * many, "cut (not (half 1,0,0,2)) (" + "(" * many,
            "either (" * many + "half 1,0,0,2" + ") (half 1,0,0,2)" * many,
            "either (half 1,0,0,2) (" * many + "half 1,0,0,2" + ")" * many,
            "turned 1 (" * many, "moved 0,0,0 (" * many + ")" * many, "half 1,0,0,2" + "(" * many,
        ):
            self.assert_wrong(text)

    def test_digits(self):
        for many in (2, 3, 10, 4299, 4300, 4301, 5000, self.MANY):
            for digits in ("1" * many, "0" * many, "-" + "9" * many, "0" * many + "1", "-" * many + "1"):
                for text in (
                    f"half {digits},0,0,2", f"half 1,0,0,{digits}", f"box {digits},0,0 1,2,3",
                    f"box 0,0,0 1,2,{digits}", f"moved {digits},0,0 (half 1,0,0,2)",
                    f"turned {digits} (half 1,0,0,2)" if many != 2 else "", digits,
                    f"not (half 1,{digits},0,2)",
                ):
                    self.assert_wrong(text)

    def test_other_long_texts(self):
        many = self.MANY
        for text in (
            " " * many, "," * many, "-" * many, "half " * many, "half" * many, "x" * many,
            "half 1,0,0,2" + " " * many, " " * many + "half 1,0,0,2", "half" + " " * many + "1,0,0,2",
            "half 1,0,0,2" * many, "half " + "1," * many + "2", "half 1,0,0,2\n" + "\n" * many,
            "box 0,0,0" + " 1,2,3" * many,
        ):
            self.assert_wrong(text)

    def test_nothing_but_invalid_text(self):
        chance = random.Random(11)
        pieces = ("half ", "box ", "not ", "both ", "moved ", "turned ", "cut ", "(", ")", ",", " ", "-",
                  "1", "0", "47", "0,0,0", "1,2,3", "1,0,0,2", "half 1,0,0,2", "box 0,0,0 1,2,3")
        for _ in range(30000):
            text = "".join(chance.choice(pieces) for _ in range(chance.randint(1, 12)))
            wanted = plain_read(text)
            if wanted is not None and is_solid(wanted):
                self.assertEqual(parse_solid(text), wanted)
            else:
                self.assert_wrong(text)


if __name__ == "__main__":
    unittest.main()
