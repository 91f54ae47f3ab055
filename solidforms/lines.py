"""Lines of space, and the stretches into which planes cut them."""

from math import lcm

from solidforms.flats import far_sides, is_greater_to_the_left, is_line, line_form, traces_in
from solidforms.planes import cross
from solidforms.ratios import ratio


class Line:
    """A line of space that is cut by planes.

    It goes through a spot, a point (x, y, z, bottom), in a way (u, v, w). `through` lists the
    planes that it lies in. The other ones cross it at the marks: whole numbers that ascend along
    the way. `stretches` lists the sides of the points below the first mark, between one and the
    next one, and above the last one; of the planes that the line lies in they tell nothing.
    """

    def __init__(self, spot, way, bits):
        self.spot = spot
        self.way = way
        self.through, crossed, sides = _met(spot, way, bits)
        self._scale = 1
        for _, slope, _ in crossed:
            self._scale = lcm(self._scale, slope)
        changes = {}
        for height, slope, bit in crossed:
            mark = -height * (self._scale // slope)
            changes[mark] = changes.get(mark, 0) + bit
        self.marks = sorted(changes)
        self.stretches = [sides]
        for mark in self.marks:
            sides ^= changes[mark]
            self.stretches.append(sides)

    def coordinate(self, axis, mark):
        """Return a coordinate of the point at a mark, a fraction."""
        return ratio(self.spot[axis] * self._scale + mark * self.way[axis], self.spot[3] * self._scale)

    def point(self, mark):
        """Return the point at a mark."""
        tops = [start * self._scale + mark * step for start, step in zip(self.spot, self.way)]
        return (*tops, self.spot[3] * self._scale)


def common_line(first, second, bits):
    """Return the line that two planes have in common, None if they do not cross."""
    way = cross(first, second)
    if way == (0, 0, 0):
        return None
    # Of all points of both planes, the spot is the one next to 0.
    tops = [first[3] * x + second[3] * y for x, y in zip(cross(second, way), cross(way, first))]
    return Line((*tops, way[0] * way[0] + way[1] * way[1] + way[2] * way[2]), way, bits)


def lines_of(bits):
    """Return the list of all lines that planes have in common."""
    planes = list(bits)
    found = []
    done = {}
    for place, plane in enumerate(planes):
        for other in planes[:place]:
            line = None if (other, plane) in done else common_line(other, plane, bits)
            if line is None:
                continue
            found.append(line)
            if len(line.through) > 2:
                done.update({(first, second): True for first in line.through for second in line.through})
    return found


def lines_in(plane, bits):
    """Return the list of all lines in which planes cut a plane, which may be one of them."""
    found = {}
    for other, trace in zip(bits, traces_in(plane, bits)):
        if is_line(trace):
            form = line_form(trace)
            if form not in found:
                found[form] = common_line(plane, other, bits)
    return list(found.values())


def sides_beside(plane, line, bits):
    """Return the sides of the points of a plane next to the left and to the right of a line in it,
    of the other planes that the line lies in."""
    others = [other for other in line.through if other != plane]
    left = right = 0
    for other, trace in zip(others, traces_in(plane, others)):
        if is_greater_to_the_left(trace):
            left += bits[other]
        else:
            right += bits[other]
    return left, right


def sides_about(line, bits):
    """Return the list of the sides of all rooms that meet along a line, of the planes that it lies
    in."""
    if len(line.through) == 2:
        first, second = bits[line.through[0]], bits[line.through[1]]
        return [0, first, second, first + second]
    found = {}
    for plane in line.through:
        for sides in sides_beside(plane, line, bits):
            found[sides] = True
            found[sides + bits[plane]] = True
    return list(found)


def rooms_of(bits, lines):
    """Return the list of the sides of all rooms into which planes cut space."""
    # There are points with the sides 0 far away, whatever the planes.
    found = {0: True}
    for line in lines:
        for about in sides_about(line, bits):
            found.update({sides + about: True for sides in line.stretches})
    if not lines:
        # All planes are parallel to each other.
        for plane, bit in bits.items():
            sides = far_sides(plane, bits)
            found[sides] = True
            found[sides + bit] = True
    return list(found)


def _met(spot, way, bits):
    """Return the planes that a line lies in, triples (height, slope, bit) of the other ones which
    are not parallel to it, and the sides of the points far back on it."""
    x, y, z, bottom = spot
    u, v, w = way
    through = []
    crossed = []
    sides = 0
    for plane, bit in bits.items():
        a, b, c, d = plane
        slope = a * u + b * v + c * w
        height = a * x + b * y + c * z - d * bottom
        if slope != 0:
            crossed.append((height, slope, bit))
        elif height == 0:
            through.append(plane)
        if slope < 0 or (slope == 0 and height > 0):
            sides += bit
    return through, crossed, sides
