"""Cuts through solids: by the plane of a level, and by a line along an axis."""

from solidforms.bodies import Body
from solidforms.errors import OnFace
from solidforms.faces import kinds_round
from solidforms.flats import far_sides
from solidforms.lines import Line, lines_in, sides_beside
from solidforms.outlines import Outline, planes_with_faces
from solidforms.pictures import borders_on, picture_of, runs_of
from solidforms.points import check_axis, check_level, check_point
from solidforms.ratios import over_one_bottom
from solidforms.solids import check_solid


def section(solid, axis, level):
    """Return the picture of what lies inside a solid at a level of an axis; raise OnFace if a face
    lies there."""
    check_solid(solid)
    check_axis(axis)
    check_level(level)
    body = Body(solid, {})
    top, bottom = level
    plane = (*[bottom * step for step in _way_of(axis)], top)
    if _has_face(body, [plane]):
        raise OnFace("a face lies in the plane of the level")
    borders = []
    for line in lines_in(plane, body.bits):
        lefts, rights = [
            [body.holds(beside + sides) for sides in line.stretches]
            for beside in sides_beside(plane, line, body.bits)
        ]
        borders.extend(borders_on(plane, line, lefts, rights))
    return picture_of(body.holds(far_sides(plane, body.bits)), borders)


def along(solid, point, axis):
    """Return the stretches in which the line through a point along an axis lies inside a solid;
    raise OnFace if it lies in the plane of a face or meets a border of one."""
    check_solid(solid)
    check_point(point)
    check_axis(axis)
    body = Body(solid, {})
    line = Line(over_one_bottom(point), _way_of(axis), body.bits)
    if _has_face(body, line.through):
        raise OnFace("the line lies in the plane of a face")
    if any([_is_on_border(body, line.point(mark)) for mark in line.marks]):
        raise OnFace("the line meets a border of a face")
    # The planes that the line lies in have no faces, and part nothing: what lies next to it, on the
    # lesser side of all of them, lies all round it.
    held = [body.holds(sides) for sides in line.stretches]
    ends = [None, *[line.coordinates(mark)[axis] for mark in line.marks], None]
    nothing = [False for _ in held]
    return tuple([(ends[begin], ends[end]) for begin, end, _, _ in runs_of(held, nothing)])


def _way_of(axis):
    """Return the direction of an axis."""
    return tuple([1 if place == axis else 0 for place in range(3)])


def _has_face(body, planes):
    """Return whether some of these planes has a face of a body."""
    own = [plane for plane in planes if plane in body.bits]
    if not own:
        return False
    return any([plane in own for plane in planes_with_faces(Outline(body))])


def _is_on_border(body, spot):
    """Return whether a border of a face meets a point."""
    return any([len(set(kinds_round(body, plane, spot))) > 1 for plane in body.bits])
