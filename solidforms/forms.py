"""Forms of solids, and what can be read off them; whether a solid lies round a point."""

from solidforms.bodies import Body, sides_at
from solidforms.errors import OnFace
from solidforms.faces import form_of, kinds_round
from solidforms.outlines import Outline, planes_with_faces
from solidforms.points import check_point
from solidforms.ratios import over_one_bottom
from solidforms.solids import check_solid


def form(solid):
    """Return the form of a solid: two solids have equal forms just if they are the same."""
    check_solid(solid)
    return form_of(solid)


def face_planes(solid):
    """Return the ascending tuple of the planes of the faces of a solid."""
    check_solid(solid)
    return tuple(sorted(planes_with_faces(Outline(Body(solid, {})))))


def is_blank(solid):
    """Return whether a solid is the same as no points."""
    check_solid(solid)
    return not any(Outline(Body(solid, {})).rooms.values())


def is_all(solid):
    """Return whether a solid is the same as all of space."""
    check_solid(solid)
    return all(Outline(Body(solid, {})).rooms.values())


def inside(solid, point):
    """Return whether a solid lies all round a point; raise OnFace if it can not be told."""
    check_solid(solid)
    check_point(point)
    body = Body(solid, {})
    spot = over_one_bottom(point)
    if any([kind != 0 for plane in body.bits for kind in kinds_round(body, plane, spot)]):
        raise OnFace("the point lies on a face or on a border of one")
    return body.holds(sides_at(body.bits, spot))
