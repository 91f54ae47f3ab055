"""The faces of a solid, each with the picture of its plane."""

from solidforms.bodies import Body, kind_of
from solidforms.flats import far_sides, kept_axes, sides_round
from solidforms.lines import lines_of, sides_about, sides_beside
from solidforms.pictures import borders_on, picture_of


def faces_of(body):
    """Return the ascending tuple of the pairs (plane, picture) of all planes with faces."""
    return faces_along(body, lines_of(body.bits))


def faces_along(body, lines):
    """Return the faces of a body, given the lines that its planes have in common."""
    borders = {plane: [] for plane in body.bits}
    for line in lines:
        rooms = _rooms_along(body, line)
        if all([row == rooms[0] for row in rooms.values()]):
            continue
        for plane in line.through:
            lefts, rights = [
                _kinds_of(rooms[sides], rooms[sides + body.bits[plane]])
                for sides in sides_beside(plane, line, body.bits)
            ]
            borders[plane].extend(borders_on(plane, line, lefts, rights))
    found = []
    for plane in sorted(body.bits):
        base = _kind_at(body, plane, far_sides(plane, body.bits))
        picture = picture_of(base, borders[plane])
        if picture != (0, ()):
            found.append((plane, picture))
    return tuple(found)


def form_of(solid):
    """Return the form of a solid, also of one beyond the limits."""
    body = Body(solid, {})
    faces = faces_of(body)
    # The points with the sides 0 are far away, and there are such points whatever the planes.
    return (faces, faces == () and body.holds(0))


def kinds_round(body, plane, spot):
    """Return the list of the kinds of all pieces of a plane that meet in a point of space; none if
    it is no point of the plane."""
    a, b, c, d = plane
    if a * spot[0] + b * spot[1] + c * spot[2] != d * spot[3]:
        return []
    first, second = kept_axes(plane)
    pieces = sides_round(plane, body.bits, (spot[first], spot[second], spot[3]))
    return [_kind_at(body, plane, sides) for sides in pieces]


def _kind_at(body, plane, sides):
    """Return the kind of points of a plane that have these sides of the other planes."""
    return kind_of(body.holds(sides), body.holds(sides + body.bits[plane]))


def _rooms_along(body, line):
    """Return a dict of the rooms that meet along a line: by their sides of the planes that the line
    lies in, whether they lie inside at each stretch."""
    holds = body.holds
    return {
        about: [holds(about + sides) for sides in line.stretches] for about in sides_about(line, body.bits)
    }


def _kinds_of(lesser, greater):
    return [kind_of(*pair) for pair in zip(lesser, greater)]
