"""Slow, plain readings of points 2.5 to 8 of the document, to compare with.

They work with points only: a solid is asked whether it holds a point that lies on no plane, and
points near others are found by steps that are short enough not to meet a plane.
"""

from fractions import Fraction
from itertools import combinations
from math import gcd

from tests.samples import ENTRIES, cross, slow_planes


def told(number):
    """Return a number as a fraction of the document."""
    return (Fraction(number).numerator, Fraction(number).denominator)


def told_point(point):
    return tuple(told(x) for x in point)


def number(fraction):
    return Fraction(*fraction)


# ---- Solids and points.

def unturned(turn, point):
    """Return the point that a turn leads to this one."""
    k, rest = divmod(turn, 8)
    signs = (rest // 4, rest // 2 % 2, rest % 2)
    found = [None] * 3
    for x, place, sign in zip(point, ENTRIES[k], signs):
        found[place] = -x if sign else x
    return tuple(found)


def holds(solid, point):
    """Return whether a solid holds a point that lies on no plane of it."""
    word = solid[0]
    if word == "half":
        return sum(n * x for n, x in zip(solid[1:4], point)) < solid[4]
    if word == "box":
        return all(low < x < high for low, x, high in zip(solid[1], point, solid[2]))
    if word == "moved":
        return holds(solid[2], tuple(x - s for x, s in zip(point, solid[1])))
    if word == "turned":
        return holds(solid[2], unturned(solid[1], point))
    if word == "not":
        return not holds(solid[1], point)
    if word == "both":
        return holds(solid[1], point) and holds(solid[2], point)
    if word == "either":
        return holds(solid[1], point) or holds(solid[2], point)
    return holds(solid[1], point) and not holds(solid[2], point)


def height(plane, point):
    return sum(n * x for n, x in zip(plane, point)) - plane[3]


def stepped(planes, point, way):
    """Return a point in this way from another one, with no plane between them."""
    step = Fraction(1)
    for plane in planes:
        above = height(plane, point)
        slope = sum(n * w for n, w in zip(plane, way))
        if above and slope:
            step = min(step, abs(above / slope) / 2)
    return tuple(x + step * w for x, w in zip(point, way))


# ---- Places and middles, as point 6 tells them.

def determinant(rows):
    return sum(x * y for x, y in zip(rows[0], cross(rows[1], rows[2])))


def middles(places):
    if not places:
        return [(Fraction(0), True)]
    inner = [((low + high) / 2, False) for low, high in zip(places, places[1:])]
    return [(places[0] - 1, True), *inner, (places[-1] + 1, True)]


def places_of_x(planes):
    found = set()
    for a, b, c, d in planes:
        if b == 0 and c == 0:
            found.add(Fraction(d, a))
    for first, second in combinations(planes, 2):
        way = cross(first[:3], second[:3])
        if any(way) and way[0] == 0:
            # All points of the line have one x: a combination of the planes is a plane of one x.
            scales = (second[2], -first[2]) if first[2] or second[2] else (second[1], -first[1])
            a, b, c, d = [scales[0] * m + scales[1] * n for m, n in zip(first, second)]
            assert b == 0 and c == 0
            found.add(Fraction(d, a))
    for three in combinations(planes, 3):
        whole = determinant([plane[:3] for plane in three])
        if whole:
            found.add(Fraction(determinant([(plane[3], *plane[1:3]) for plane in three]), whole))
    return sorted(found)


def places_of_y(planes, x):
    # Lines b * y + c * z = e at this x.
    lines = [(b, c, d - a * x) for a, b, c, d in planes if b or c]
    found = {e / b for b, c, e in lines if c == 0}
    for (b, c, e), (f, g, h) in combinations(lines, 2):
        if b * g != f * c:
            found.add((e * g - h * c) / (b * g - f * c))
    return sorted(found)


def places_of_z(planes, x, y):
    return sorted({(d - a * x - b * y) / c for a, b, c, d in planes if c})


def samples(planes):
    """Yield the points of point 6, in their order, and whether each stands in a stretch that has
    no end; there is at least one in every piece into which the planes cut space."""
    for x, far_x in middles(places_of_x(planes)):
        for y, far_y in middles(places_of_y(planes, x)):
            for z, far_z in middles(places_of_z(planes, x, y)):
                yield (x, y, z), far_x or far_y or far_z


def rooms(planes):
    """Return a dict of the pieces into which planes cut space, told by the sides of their points:
    a point of each, and whether it goes on for ever."""
    found = {}
    for point, far in samples(planes):
        sides = tuple(height(plane, point) > 0 for plane in planes)
        kept, endless = found.get(sides, (point, False))
        found[sides] = (kept, endless or far)
    return found


# ---- Faces.

def kept_places(plane):
    out = max(place for place in range(3) if plane[place])
    return [place for place in range(3) if place != out]


def lifted(plane, kept):
    """Return the point of a plane with these kept coordinates."""
    first, second = kept_places(plane)
    point = [None] * 3
    point[first], point[second] = kept
    out = point.index(None)
    point[out] = Fraction(plane[3] - plane[first] * kept[0] - plane[second] * kept[1]) / plane[out]
    return tuple(point)


def kind_at(solid, planes, plane, kept):
    """Return the kind of a point of a plane that lies on no other one."""
    point = lifted(plane, kept)
    greater = holds(solid, stepped(planes, point, plane[:3]))
    lesser = holds(solid, stepped(planes, point, tuple(-n for n in plane[:3])))
    return 0 if greater == lesser else 1 if greater else 2


def flat_lines(plane, planes):
    """Return the lines p * u + q * v + r = 0 in which other planes cut one, found by three points."""
    lines = set()
    for other in planes:
        r, at_u, at_v = [height(other, lifted(plane, kept)) for kept in ((0, 0), (1, 0), (0, 1))]
        p, q = at_u - r, at_v - r
        if p or q:
            lines.add(one_form((p, q, r)))
    return sorted(lines)


def one_form(numbers):
    bottom = 1
    for x in numbers:
        bottom = bottom * Fraction(x).denominator // gcd(bottom, Fraction(x).denominator)
    whole = [int(x * bottom) for x in numbers]
    divisor = gcd(*whole)
    if [x for x in whole if x][0] < 0:
        divisor = -divisor
    return tuple(x // divisor for x in whole)


def flat_samples(lines):
    """Yield a point (u, v) in every piece into which lines cut a plane."""
    # The lines stand for planes in which x does not count.
    for u, _ in middles(places_of_y([(0, p, q, -r) for p, q, r in lines], Fraction(0))):
        for v, _ in middles(sorted({Fraction(-r - p * u) / q for p, q, r in lines if q})):
            yield (u, v)


def slow_face_planes(solid):
    planes = sorted(slow_planes(solid))
    return tuple(
        plane for plane in planes
        if any(kind_at(solid, planes, plane, kept) for kept in flat_samples(flat_lines(plane, planes))))


# ---- Answers.

def slow_parting(solid, other):
    planes = sorted(set(slow_face_planes(solid)) | set(slow_face_planes(other)))
    every = sorted(slow_planes(solid) | slow_planes(other))
    for point, _ in samples(planes):
        beside = stepped(every, stepped(every, stepped(every, point, (1, 0, 0)), (0, 1, 0)), (0, 0, 1))
        if holds(solid, beside) != holds(other, beside):
            return told_point(point)
    return None


def slow_round(solid, point):
    """Return whether a solid lies all round a point; None if it does so on some sides alone."""
    planes = sorted(slow_planes(solid))
    through = [(*plane[:3], 0) for plane in planes if height(plane, point) == 0]
    answers = {holds(solid, stepped(planes, point, way)) for way, _ in samples(through)}
    return answers.pop() if len(answers) == 1 else None


def slow_pieces(solid):
    """Return the pairs (inside, endless) of all pieces off the faces."""
    planes = sorted(slow_planes(solid))
    found = rooms(planes)
    inner = {sides: holds(solid, point) for sides, (point, _) in found.items()}
    left = dict(found)
    pieces = []
    while left:
        first = next(iter(left))
        waiting, endless = [first], False
        while waiting:
            sides = waiting.pop()
            if sides in left:
                endless = left.pop(sides)[1] or endless
                # Two pieces of space with one plane between them have a wall in common.
                for place in range(len(planes)):
                    beside = (*sides[:place], not sides[place], *sides[place + 1:])
                    if beside in left and inner[beside] == inner[sides]:
                        waiting.append(beside)
        pieces.append((inner[first], endless))
    return pieces


def slow_bounded(solid):
    found = rooms(sorted(slow_planes(solid)))
    return not any(endless and holds(solid, point) for point, endless in found.values())


def slow_volume(solid):
    """Return the volume of a solid that has bounds, cut into slices."""
    planes = sorted(slow_planes(solid))
    total = Fraction(0)
    places = places_of_x(planes)
    for low, high in zip(places, places[1:]):
        # Between two places, areas are a polynomial of x of the degree 2: three of them are enough.
        quarter = (high - low) / 4
        areas = [slice_area(solid, planes, low + quarter * k) for k in (1, 2, 3)]
        total += (high - low) * (2 * areas[0] - areas[1] + 2 * areas[2]) / 3
    return told(total)


def slice_area(solid, planes, x):
    places = places_of_y(planes, x)
    total = Fraction(0)
    for low, high in zip(places, places[1:]):
        y = (low + high) / 2
        heights = places_of_z(planes, x, y)
        length = sum(
            top - bottom for bottom, top in zip(heights, heights[1:])
            if holds(solid, (x, y, (bottom + top) / 2)))
        total += (high - low) * length
    return total


def slow_box(solid):
    """Return the box round a solid that has bounds and points."""
    planes = sorted(slow_planes(solid))
    corners = []
    for three in combinations(planes, 3):
        normals = [plane[:3] for plane in three]
        whole = determinant(normals)
        if whole:
            levels = [plane[3] for plane in three]
            point = []
            for place in range(3):
                rows = [tuple(e if k == place else n[k] for k in range(3)) for n, e in zip(normals, levels)]
                point.append(Fraction(determinant(rows), whole))
            if slow_round(solid, point) is None:
                corners.append(point)
    return tuple(tuple(told(best(point[axis] for point in corners)) for axis in range(3)) for best in (min, max))


# ---- Pictures.

def kind_in_picture(picture, u, v):
    """Return the kind that a picture tells of a point, by what it meets on the way down and then
    to the left; the point has no u at which borders end or go straight up."""
    base, borders = picture
    below = []
    upright = []
    for (p, q, r), start, end, left, right in borders:
        if q == 0:
            if start is None and Fraction(-r, p) < u:
                upright.append((Fraction(-r, p), right))
        elif (start is None or number(start[0]) < u) and (end is None or u < number(end[0])):
            if Fraction(-r - p * u) / q < v:
                below.append((Fraction(-r - p * u) / q, left))
    return max(below)[1] if below else max(upright)[1] if upright else base


def stretches(border, lines):
    """Return a point of each stretch into which lines cut a border."""
    (p, q, r), start, end = border[:3]
    along = (0, 1) if q == 0 else (1, Fraction(-p, q))
    origin = (Fraction(-r, p), 0) if q == 0 else (0, Fraction(-r, q))
    steps = set()
    for a, b, c in lines:
        slope = a * along[0] + b * along[1]
        if slope:
            steps.add(-Fraction(a * origin[0] + b * origin[1] + c) / slope)
    place = 1 if q == 0 else 0
    low, high = [None if mark is None else number(mark[place]) - origin[place] for mark in (start, end)]
    marks = sorted({s for s in steps if (low is None or s > low) and (high is None or s < high)}
                   | {s for s in (low, high) if s is not None})
    found = [s for s, _ in middles(marks)]
    found = found[0 if low is None else 1:len(found) if high is None else -1]
    return [tuple(o + s * w for o, w in zip(origin, along)) for s in found]


def aside_from(line, lines, kept):
    """Return the points close by on the left and on the right of a point of a line."""
    p, q, _ = line
    left = (p, q) if q > 0 else (-p, -q)
    flat = [(a, b, 0, -c) for a, b, c in lines]
    return [stepped(flat, (*kept, Fraction(0)), (s * left[0], s * left[1], 0))[:2] for s in (1, -1)]


