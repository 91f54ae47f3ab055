"""The faces of a solid, each with the picture of its plane."""

from solidforms.bodies import Body
from solidforms.flats import picture_of, traces_in


def faces_of(body):
    """Return the ascending tuple of the pairs (plane, picture) of all planes with faces."""
    found = []
    for place, plane in enumerate(body.planes):
        picture = _picture_in(body, place)
        if picture != (0, ()):
            found.append((plane, picture))
    return tuple(found)


def form_of(solid):
    """Return the form of a solid, also of one beyond the limits."""
    body = Body(solid)
    faces = faces_of(body)
    # The points with the sides 0 are far away, and there are such points whatever the planes.
    return (faces, faces == () and body.holds(0))


def _picture_in(body, place):
    traces = traces_in(body.planes[place], body.planes)
    return picture_of(traces, lambda sides: body.kind(place, sides))
