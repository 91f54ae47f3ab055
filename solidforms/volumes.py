"""Bounds and volumes of solids."""

from solidforms.bodies import Body, differing
from solidforms.errors import Blank, NoBounds
from solidforms.faces import faces_of
from solidforms.flats import kept_axes, left_out
from solidforms.ratios import ascending, minus, plus, times
from solidforms.solids import check_solid

# How points of the kinds 0, 1 and 2 count in a volume: seen from the solid, those of the kind 2
# face the greater side of their plane, and those of the kind 1 the lesser side.
WEIGHTS = (0, -1, 1)


def is_bounded(solid):
    """Return whether a solid has bounds."""
    check_solid(solid)
    body = Body(solid)
    # The points with the sides 0 are far away, and if all faces have bounds, everything that is
    # far away is alike.
    return not body.holds(0) and all([_is_closed(picture) for _, picture in faces_of(body)])


def check_bounds(solid):
    """Raise InvalidSolid if this is not a solid, NoBounds if it has no bounds."""
    if not is_bounded(solid):
        raise NoBounds("the solid lies within no box")


def volume(solid):
    """Return the volume of a solid, a fraction."""
    check_bounds(solid)
    return _volume_of(solid)


def box(solid):
    """Return the least and the greatest coordinates of the faces of a solid."""
    check_bounds(solid)
    faces = faces_of(Body(solid))
    if not faces:
        raise Blank("a solid that is the same as no points has no faces")
    rows = [ascending(_coordinates_in(faces, axis)) for axis in range(3)]
    return (tuple([row[0] for row in rows]), tuple([row[-1] for row in rows]))


def differing_volume(solid, other):
    """Return the volume of what is in just one of two solids."""
    check_bounds(solid)
    check_bounds(other)
    return _volume_of(differing(solid, other))


def _is_closed(picture):
    """Return whether no face goes on for ever in a picture."""
    base, borders = picture
    return base == 0 and all([start is not None and end is not None for _, start, end, _, _ in borders])


def _volume_of(solid):
    """Return the volume of a solid that has bounds, as the sum of cones from 0 to its faces."""
    total = (0, 1)
    for plane, (_, borders) in faces_of(Body(solid)):
        # Areas are those of the faces as seen along the axis that is left out.
        share = (plane[3], 6 * abs(plane[left_out(plane)]))
        for border in borders:
            total = plus(total, times(share, _doubled_area(border)))
    return total


def _doubled_area(border):
    """Return what a border adds to the doubled areas of the faces, weighed by their kinds."""
    _, (u, v), (later_u, later_v), left, right = border
    area = minus(times(u, later_v), times(later_u, v))
    return times((WEIGHTS[left] - WEIGHTS[right], 1), area)


def _coordinates_in(faces, axis):
    """Return the list of the coordinates of one axis of all ends of borders."""
    found = []
    for plane, (_, borders) in faces:
        for _, start, end, _, _ in borders:
            found.extend([_coordinate(plane, start, axis), _coordinate(plane, end, axis)])
    return found


def _coordinate(plane, kept, axis):
    """Return one coordinate of the point of a plane with these kept coordinates."""
    first, second = kept_axes(plane)
    if axis == first:
        return kept[0]
    if axis == second:
        return kept[1]
    rest = minus((plane[3], 1), plus(times((plane[first], 1), kept[0]), times((plane[second], 1), kept[1])))
    return times(rest, (1, plane[axis]))
