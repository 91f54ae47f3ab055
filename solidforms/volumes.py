"""Bounds and volumes of solids."""

from solidforms.bodies import Body
from solidforms.errors import Blank, NoBounds
from solidforms.flats import kept_axes, left_out
from solidforms.lines import sides_beside
from solidforms.outlines import Outline, is_closed, mixed_stretches
from solidforms.pairs import Core, Difference
from solidforms.ratios import ascending, plus, ratio
from solidforms.solids import check_solid


def is_bounded(solid):
    """Return whether a solid has bounds."""
    check_solid(solid)
    return _closed_outline(solid, {}) is not None


def volume(solid):
    """Return the volume of a solid, a fraction."""
    return _volume_of(bounded_outline(solid, {}))


def box(solid):
    """Return the least and the greatest coordinates of the faces of a solid."""
    outline = bounded_outline(solid, {})
    if not outline.edges:
        raise Blank("a solid that is the same as no points has no faces")
    return box_round(outline)


def differing_volume(solid, other):
    """Return the volume of what is in just one of two solids."""
    first = bounded_outline(solid, {})
    second = bounded_outline(other, first.bits)
    return _volume_of(Outline(Difference(Core(first), Core(second))))


def bounded_outline(solid, numbered):
    """Return the outline of a solid; raise InvalidSolid if it is none, NoBounds if it has no bounds."""
    check_solid(solid)
    outline = _closed_outline(solid, numbered)
    if outline is None:
        raise NoBounds("the solid lies within no box")
    return outline


def box_round(outline):
    """Return the least and the greatest coordinates of the faces of what has bounds."""
    points = []
    for line, table in outline.edges:
        mixed = mixed_stretches(table)
        # The marks stand between the stretches; those between the first and the last one of an edge
        # have neither the least nor the greatest coordinates.
        points.extend([line.coordinates(line.marks[mixed[0] - 1]), line.coordinates(line.marks[mixed[-1]])])
    rows = [ascending([point[axis] for point in points]) for axis in range(3)]
    return (tuple([row[0] for row in rows]), tuple([row[-1] for row in rows]))


def _closed_outline(solid, numbered):
    """Return the outline of a solid if it has bounds, otherwise None."""
    body = Body(solid, numbered)
    # The points with the sides 0 are far away: if they lie inside, all else need not be looked at.
    if body.holds(0):
        return None
    outline = Outline(body)
    return outline if is_closed(outline) else None


def _volume_of(outline):
    """Return the volume of what has bounds, as the sum of cones from 0 to its faces."""
    total = (0, 1)
    for line, table in outline.edges:
        for plane in line.through:
            # There are no cones to faces in planes through 0.
            if plane[3] != 0:
                total = plus(total, _cone_to(plane, line, table, outline.bits))
    return total


def _cone_to(plane, line, table, bits):
    """Return what an edge adds to the volume of the cones to the faces in a plane."""
    left, right = sides_beside(plane, line, bits)
    rows = [table[sides] for sides in (left, left + bits[plane], right, right + bits[plane])]
    # Seen from the solid, a face looks to the greater side of its plane, or away from it.
    weights = [a - b - c + d for a, b, c, d in zip(*rows)]
    length = sum([
        weight * (high - low) for weight, low, high in zip(weights[1:], line.marks, line.marks[1:])])
    # Areas are those of the faces as seen along the axis that is left out.
    first, second = kept_axes(plane)
    u, v = line.way[first], line.way[second]
    area = length * (line.spot[first] * v - line.spot[second] * u)
    if (u, v) < (0, 0):
        area = -area
    bottom = line.scale * line.spot[3] ** 2
    return ratio(area * plane[3], 6 * abs(plane[left_out(plane)]) * bottom)
