"""Lines of space, and the stretches into which planes cut them."""

from math import lcm

from solidforms.flats import far_sides, is_greater_to_the_left, is_line, left_out, line_form, traces_in
from solidforms.planes import cross
from solidforms.ratios import ratio


class Line:
    """A line of space that is cut by planes.

    It goes through a spot, a point (x, y, z, bottom), in a way (u, v, w). `through` lists the
    planes that it lies in. The other ones cross it at the marks: whole numbers that ascend along
    the way, of which `scale` ones lead from (x, y, z) / bottom to (x + u, y + v, z + w) / bottom.
    `stretches` lists the sides of the points below the first mark, between one and the next one,
    and above the last one; of the planes that the line lies in they tell nothing.
    """

    def __init__(self, spot, way, bits):
        self.spot = spot
        self.way = way
        self.through, crossed, sides = _met(spot, way, bits)
        self.scale = 1
        for _, slope, _ in crossed:
            self.scale = lcm(self.scale, slope)
        changes = {}
        for height, slope, bit in crossed:
            mark = -height * (self.scale // slope)
            changes[mark] = changes.get(mark, 0) + bit
        self.marks = sorted(changes)
        self.stretches = [sides]
        for mark in self.marks:
            sides = sides ^ changes[mark]
            self.stretches.append(sides)
        self._told = {}

    def point(self, mark):
        """Return the point at a mark."""
        tops = [start * self.scale + mark * step for start, step in zip(self.spot, self.way)]
        return (*tops, self.spot[3] * self.scale)

    def coordinates(self, mark):
        """Return the tuple of the coordinates of the point at a mark, as fractions."""
        if mark not in self._told:
            x, y, z, bottom = self.point(mark)
            self._told[mark] = (ratio(x, bottom), ratio(y, bottom), ratio(z, bottom))
        return self._told[mark]


def common_line(first, second, bits):
    """Return the line that two planes have in common, None if they do not cross."""
    way = cross(first, second)
    return None if way == (0, 0, 0) else Line(_common_point(first, second, way), way, bits)


def lines_of(bits):
    """Return the list of all lines that planes have in common."""
    planes = list(bits)
    found = []
    done = {}
    for place, plane in enumerate(planes):
        for other in planes[:place]:
            line = None if (other, plane) in done else common_line(other, plane, bits)
            if line is None:
                continue
            found.append(line)
            if len(line.through) > 2:
                done.update({(first, second): True for first in line.through for second in line.through})
    return found


def lines_in(plane, bits):
    """Return the list of all lines in which planes cut a plane, which may be one of them."""
    found = {}
    for other, trace in zip(bits, traces_in(plane, bits)):
        if is_line(trace):
            form = line_form(trace)
            if form not in found:
                found[form] = common_line(plane, other, bits)
    return list(found.values())


def sides_beside(plane, line, bits):
    """Return the sides of the points of a plane next to the left and to the right of a line in it,
    of the other planes that the line lies in."""
    left = right = 0
    for other in line.through:
        if other == plane:
            continue
        if is_greater_to_the_left(plane, other):
            left += bits[other]
        else:
            right += bits[other]
    return left, right


def sides_about(line, bits):
    """Return the list of the sides of all rooms that meet along a line, of the planes that it lies
    in."""
    if len(line.through) == 2:
        first, second = bits[line.through[0]], bits[line.through[1]]
        return [0, first, second, first + second]
    found = {}
    for plane in line.through:
        for sides in sides_beside(plane, line, bits):
            found[sides] = True
            found[sides + bits[plane]] = True
    return list(found)


def rooms_between(bits):
    """Return the list of the sides of all rooms between planes that are parallel to each other."""
    # There are points with the sides 0 far away.
    found = {0: True}
    for plane, bit in bits.items():
        found[far_sides(plane, bits) + bit] = True
    return list(found)


def _common_point(first, second, way):
    """Return the point of the line in this way, of two planes, that has one coordinate 0."""
    out = left_out(way)
    # These three are x, y and z, or as they follow each other in a round.
    after, ahead = (out + 1) % 3, (out + 2) % 3
    point = [0, 0, 0, way[out]]
    point[after] = first[3] * second[ahead] - second[3] * first[ahead]
    point[ahead] = first[after] * second[3] - second[after] * first[3]
    return tuple(point) if way[out] > 0 else tuple([-number for number in point])


def _met(spot, way, bits):
    """Return the planes that a line lies in, triples (height, slope, bit) of the other ones which
    are not parallel to it, and the sides of the points far back on it."""
    x, y, z, bottom = spot
    u, v, w = way
    through = []
    crossed = []
    sides = 0
    for plane, bit in bits.items():
        a, b, c, d = plane
        slope = a * u + b * v + c * w
        height = a * x + b * y + c * z - d * bottom
        if slope != 0:
            crossed.append((height, slope, bit))
        elif height == 0:
            through.append(plane)
        if slope < 0 or (slope == 0 and height > 0):
            sides += bit
    return through, crossed, sides
