"""Solids for the tests, and slow, plain readings of the document to compare with."""

import re
from fractions import Fraction
from math import gcd

B = ("box", (0, 0, 0), (1, 2, 3))
HALF = ("half", 1, 0, 0, 2)

# One of each kind of solid, with its text as point 4 gives it.
TEXTS = (
    (("half", 1, 2, 3, 4), "half 1,2,3,4"),
    (("half", -3, 0, 3, -9), "half -3,0,3,-9"),
    (B, "box 0,0,0 1,2,3"),
    (("box", (-9, -8, -7), (9, 8, -6)), "box -9,-8,-7 9,8,-6"),
    (("both", HALF, B), "both (half 1,0,0,2) (box 0,0,0 1,2,3)"),
    (("either", B, HALF), "either (box 0,0,0 1,2,3) (half 1,0,0,2)"),
    (("cut", HALF, B), "cut (half 1,0,0,2) (box 0,0,0 1,2,3)"),
    (("not", HALF), "not (half 1,0,0,2)"),
    (("moved", (1, -2, 0), B), "moved 1,-2,0 (box 0,0,0 1,2,3)"),
    (("turned", 0, HALF), "turned 0 (half 1,0,0,2)"),
    (("turned", 47, HALF), "turned 47 (half 1,0,0,2)"),
    (
        ("cut", ("not", ("turned", 8, B)), ("moved", (0, 0, -9), ("both", HALF, HALF))),
        "cut (not (turned 8 (box 0,0,0 1,2,3)))"
        " (moved 0,0,-9 (both (half 1,0,0,2) (half 1,0,0,2)))",
    ),
)

# What stands in no place where a solid or a number is wanted.
WRONG_VALUES = (
    None, True, False, 0, 1, -5, 10 ** 40, 0.5, float("nan"), 1j, "", "half", "half 1,0,0,2",
    "box 0,0,0 1,2,3", b"half 1,0,0,2", [], {}, set(), frozenset(), (), (None,), ((),), ([],),
    [HALF], list(HALF), {"half": HALF}, {HALF: 1}, object(), ("half",), ("both",), (HALF, HALF),
    (1, 0, 0, 2), (0, 1, 0, 0, 2), ([], 1, 0, 0, 2), ({}, HALF), (True, HALF), (None, HALF),
    (("not",), HALF), range(3), len, ValueError, lambda: HALF,
)


def deep(depth, leaf=HALF):
    """Return a solid of a depth, by words that take one solid."""
    found = leaf
    for k in range(depth - 1):
        found = (("not", found), ("moved", (0, 1, 0), found), ("turned", 0, found))[k % 3]
    return found


def left_deep(depth):
    """Return a solid of a depth that grows in first and second places in turn."""
    found = HALF
    for k in range(depth - 1):
        found = ("cut", found, HALF) if k % 2 else ("either", HALF, found)
    return found


def wide(many, leaf=HALF):
    """Return a solid of many solids that is not deep."""
    row = [leaf] * ((many + 1) // 2)
    while len(row) > 1:
        row = [("either", *row[k:k + 2]) if k + 1 < len(row) else row[k] for k in range(0, len(row), 2)]
    return row[0] if many % 2 else ("not", row[0])


def joined(solids):
    """Return a solid that holds all of these, as flat as can be."""
    row = list(solids)
    while len(row) > 1:
        row = [("either", *row[k:k + 2]) if k + 1 < len(row) else row[k] for k in range(0, len(row), 2)]
    return row[0]


def nested(wrap, depth, core):
    """Return a value within others, by a function that wraps once."""
    for _ in range(depth):
        core = wrap(core)
    return core


def random_solid(random, depth, few_planes=True):
    """Return a value built like a solid; it may have too many planes or solids."""
    words = ("half", "box") if depth <= 1 else (
        "half", "both", "either", "cut", "not", "moved", "turned", "moved", "turned", "both")
    word = random.choice(words)
    reach = 2 if few_planes else 9
    if word == "half":
        normal = random.choice([(1, 0, 0), (0, -1, 0), (0, 2, 0), (1, 1, 0), (0, 1, -1), (3, -3, 3), (1, 2, 3)])
        return ("half", *normal, random.randint(-reach, reach))
    if word == "box":
        low = [random.randint(-reach, reach - 1) for _ in range(3)]
        return ("box", tuple(low), tuple(random.randint(x + 1, reach) for x in low))
    first = random_solid(random, depth - 1, few_planes)
    if word == "not":
        return (word, first)
    if word == "moved":
        return (word, tuple(random.randint(-reach, reach) for _ in range(3)), first)
    if word == "turned":
        return (word, random.randint(0, 47), first)
    return (word, first, random_solid(random, depth - 1, few_planes))


def packed_solid(random, most_planes, size=5):
    """Return a solid of many faces close to 0, and of no more planes than this."""
    while True:
        found = packed_value(random, random.randint(0, size))
        if len(slow_planes(found)) <= most_planes:
            return found


def packed_value(random, size):
    if size == 0:
        return packed_leaf(random)
    word = random.choice(("both", "both", "both", "either", "either", "cut", "cut", "not", "moved", "turned"))
    if word == "not":
        return (word, packed_value(random, size - 1))
    if word == "moved":
        return (word, tuple(random.randint(-1, 1) for _ in range(3)), packed_value(random, size - 1))
    if word == "turned":
        return (word, random.randint(0, 47), packed_value(random, size - 1))
    first = random.randint(0, size - 1)
    return (word, packed_value(random, first), packed_value(random, size - 1 - first))


def packed_leaf(random):
    if random.random() < 0.5:
        low = tuple(random.randint(-2, 1) for _ in range(3))
        return ("box", low, tuple(random.randint(x + 1, 2) for x in low))
    normal = (0, 0, 0)
    while not any(normal):
        normal = tuple(random.choice((-1, 0, 0, 1, 1, 2)) for _ in range(3))
    return ("half", *normal, random.randint(-2, 2))


def greatest_solid(random, words=("both", "either", "cut")):
    """Return a solid of 12 planes, 12 deep, that consists of 40 solids."""
    found = HALF
    while len(slow_planes(found)) < 12:
        found = greatest_chain(random, words)
    return found


def greatest_chain(random, words):
    """Return 12 half spaces joined one by one, which makes 23 solids; the other 17 are put in
    where a half space does not stand deepest."""
    found = random_half(random)
    more = 17
    for place in range(11):
        wraps = min(more, place)
        more -= wraps
        half = deep(wraps + 1, random_half(random))
        pair = (found, half) if random.random() < 0.5 else (half, found)
        found = (random.choice(words), *pair)
    return found


def random_half(random):
    normal = (0, 0, 0)
    while not any(normal):
        normal = tuple(random.randint(-3, 3) for _ in range(3))
    return ("half", *normal, random.randint(-9, 9))


# ---- Planes, found by leading three points and one inside along with each half space.

ENTRIES = ((0, 1, 2), (0, 2, 1), (1, 0, 2), (1, 2, 0), (2, 0, 1), (2, 1, 0))


def turned_point(number, point):
    k, rest = divmod(number, 8)
    i, rest = divmod(rest, 4)
    j, l = divmod(rest, 2)
    p0, p1, p2 = ENTRIES[k]
    first, second, third = point[p0], point[p1], point[p2]
    return (-first if i else first, -second if j else second, -third if l else third)


def cross(u, v):
    return (u[1] * v[2] - u[2] * v[1], u[2] * v[0] - u[0] * v[2], u[0] * v[1] - u[1] * v[0])


def three_points(a, b, c, d):
    """Return three points of a plane that lie on no one line."""
    size = a * a + b * b + c * c
    start = tuple(Fraction(d * n, size) for n in (a, b, c))
    aside = cross((a, b, c), (0, 0, 1) if a or b else (1, 0, 0))
    across = cross((a, b, c), aside)
    return [start] + [tuple(s + w for s, w in zip(start, way)) for way in (aside, across)]


def plane_through(points):
    """Return the plane through three points, as 2.4 writes it."""
    p, q, r = points
    normal = cross(*[tuple(x - y for x, y in zip(other, p)) for other in (q, r)])
    level = sum(n * x for n, x in zip(normal, p))
    numbers = [Fraction(n) for n in (*normal, level)]
    bottom = 1
    for n in numbers:
        bottom = bottom * n.denominator // gcd(bottom, n.denominator)
    whole = [int(n * bottom) for n in numbers]
    divisor = gcd(*whole)
    if [n for n in whole[:3] if n][0] < 0:
        divisor = -divisor
    return tuple(n // divisor for n in whole)


def slow_planes(solid):
    """Return the set of the planes of a solid, by points."""
    found = set()

    def walk(part, ways):
        word = part[0]
        if word in ("half", "box"):
            for half in [part[1:]] if word == "half" else box_sides(part):
                points = three_points(*half)
                for way in ways:
                    points = [way(point) for point in points]
                found.add(plane_through(points))
        elif word == "moved":
            shift = part[1]
            walk(part[2], [lambda p: tuple(x + s for x, s in zip(p, shift))] + ways)
        elif word == "turned":
            walk(part[2], [lambda p: turned_point(part[1], p)] + ways)
        else:
            for inner in part[1:]:
                walk(inner, ways)

    walk(solid, [])
    return found


def box_sides(box):
    for corner in box[1:]:
        for place, level in enumerate(corner):
            yield tuple(int(k == place) for k in range(3)) + (level,)


# ---- Texts, read by patterns from the outside in.

NUMBER = "(0|-?[1-9][0-9]*)"
THREE = ",".join([NUMBER] * 3)


def plain_text(value):
    """Return the text of a value that is built like a solid, whatever its bounds."""
    word = value[0]
    if word == "half":
        return "half %d,%d,%d,%d" % value[1:]
    if word == "box":
        return "box %d,%d,%d %d,%d,%d" % (value[1] + value[2])
    if word == "moved":
        return "moved %d,%d,%d (%s)" % (value[1] + (plain_text(value[2]),))
    if word == "turned":
        return "turned %d (%s)" % (value[1], plain_text(value[2]))
    return word + "".join(" (%s)" % plain_text(part) for part in value[1:])


def plain_read(text):
    """Return what has this text, whatever its bounds, or None."""
    if found := re.fullmatch("half " + THREE + "," + NUMBER, text):
        return ("half", *map(int, found.groups()))
    if found := re.fullmatch("box " + THREE + " " + THREE, text):
        numbers = tuple(map(int, found.groups()))
        return ("box", numbers[:3], numbers[3:])
    head, _, rest = text.partition(" (")
    inner = [plain_read(piece) for piece in bracketed(" (" + rest)]
    if not inner or None in inner:
        return None
    if head == "not" and len(inner) == 1 or head in ("both", "either", "cut") and len(inner) == 2:
        return (head, *inner)
    if len(inner) == 1 and (found := re.fullmatch("moved " + THREE, head)):
        return ("moved", tuple(map(int, found.groups())), inner[0])
    if len(inner) == 1 and (found := re.fullmatch("turned " + NUMBER, head)):
        return ("turned", int(found.group(1)), inner[0])
    return None


def bracketed(text):
    """Return the pieces of " (piece) (piece)", or no pieces if it is not so."""
    pieces, depth, begin = [], 0, 0
    for at, sign in enumerate(text):
        if depth == 0 and sign not in " (":
            return []
        if sign == "(":
            depth += 1
            if depth == 1:
                if text[at - 1:at] != " " or at - 1 != begin:
                    return []
                begin = at + 1
        if sign == ")":
            depth -= 1
            if depth == 0:
                pieces.append(text[begin:at])
                begin = at + 1
    return pieces if depth == 0 and begin == len(text) else []
