"""Bounds and volumes of solids."""

from solidforms.bodies import Body
from solidforms.errors import Blank, NoBounds
from solidforms.faces import faces_of
from solidforms.flats import kept_axes, left_out
from solidforms.pairs import Core, Difference
from solidforms.ratios import ascending, minus, plus, times
from solidforms.solids import check_solid

# How points of the kinds 0, 1 and 2 count in a volume: seen from the solid, those of the kind 2
# face the greater side of their plane, and those of the kind 1 the lesser side.
WEIGHTS = (0, -1, 1)


def is_bounded(solid):
    """Return whether a solid has bounds."""
    check_solid(solid)
    return _closed_core(solid, {}) is not None


def bounded_core(solid, numbered):
    """Return the core of a solid; raise InvalidSolid if it is none, NoBounds if it has no bounds."""
    check_solid(solid)
    core = _closed_core(solid, numbered)
    if core is None:
        raise NoBounds("the solid lies within no box")
    return core


def volume(solid):
    """Return the volume of a solid, a fraction."""
    return _volume_of(bounded_core(solid, {}).faces)


def box(solid):
    """Return the least and the greatest coordinates of the faces of a solid."""
    faces = bounded_core(solid, {}).faces
    if not faces:
        raise Blank("a solid that is the same as no points has no faces")
    return box_of(faces)


def box_of(faces):
    """Return the least and the greatest coordinates of faces that have bounds."""
    rows = [ascending(_coordinates_in(faces, axis)) for axis in range(3)]
    return (tuple([row[0] for row in rows]), tuple([row[-1] for row in rows]))


def differing_volume(solid, other):
    """Return the volume of what is in just one of two solids."""
    first = bounded_core(solid, {})
    second = bounded_core(other, first.numbered)
    return _volume_of(faces_of(Difference(first, second)))


def _closed_core(solid, numbered):
    """Return the core of a solid if it has bounds, otherwise None."""
    body = Body(solid, numbered)
    # The points with the sides 0 are far away, and if all faces have bounds, everything that is
    # far away is alike.
    if body.holds(0):
        return None
    core = Core(body)
    return core if all([_has_ends(picture) for _, picture in core.faces]) else None


def _has_ends(picture):
    """Return whether no face goes on for ever in a picture."""
    base, borders = picture
    return base == 0 and all([start is not None and end is not None for _, start, end, _, _ in borders])


def _volume_of(faces):
    """Return the volume within faces that have bounds, as the sum of cones from 0 to them."""
    total = (0, 1)
    for plane, (_, borders) in faces:
        # Areas are those of the faces as seen along the axis that is left out.
        share = (plane[3], 6 * abs(plane[left_out(plane)]))
        for border in borders:
            total = plus(total, times(share, _doubled_area(border)))
    return total


def _doubled_area(border):
    """Return what a border adds to the doubled areas of the faces, weighed by their kinds."""
    _, (u, v), (later_u, later_v), left, right = border
    area = minus(times(u, later_v), times(later_u, v))
    return times((WEIGHTS[left] - WEIGHTS[right], 1), area)


def _coordinates_in(faces, axis):
    """Return the list of the coordinates of one axis of all ends of borders."""
    found = []
    for plane, (_, borders) in faces:
        for _, start, end, _, _ in borders:
            found.extend([_coordinate(plane, start, axis), _coordinate(plane, end, axis)])
    return found


def _coordinate(plane, kept, axis):
    """Return one coordinate of the point of a plane with these kept coordinates."""
    first, second = kept_axes(plane)
    if axis == first:
        return kept[0]
    if axis == second:
        return kept[1]
    rest = minus((plane[3], 1), plus(times((plane[first], 1), kept[0]), times((plane[second], 1), kept[1])))
    return times(rest, (1, plane[axis]))
