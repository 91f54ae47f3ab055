"""The faces of a solid, each with the picture of its plane."""

from solidforms.bodies import Body
from solidforms.flats import far_sides, kept_axes, sides_round
from solidforms.lines import sides_beside
from solidforms.outlines import Outline
from solidforms.pictures import borders_on, picture_of

# The kinds of points, by whether the solid lies near them on the lesser and on the greater side.
KINDS = {(False, False): 0, (False, True): 1, (True, False): 2, (True, True): 0}


def form_of(solid):
    """Return the form of a solid."""
    outline = Outline(Body(solid, {}))
    faces = _faces_of(outline)
    # The points with the sides 0 are far away, and there are such points whatever the planes.
    return (faces, faces == () and outline.rooms[0])


def kinds_round(body, plane, spot):
    """Return the list of the kinds of all pieces of a plane that meet in a point of space; none if
    it is no point of the plane."""
    a, b, c, d = plane
    if a * spot[0] + b * spot[1] + c * spot[2] != d * spot[3]:
        return []
    first, second = kept_axes(plane)
    bit = body.bits[plane]
    pieces = sides_round(plane, body.bits, (spot[first], spot[second], spot[3]))
    return [KINDS[body.holds(sides), body.holds(sides + bit)] for sides in pieces]


def _faces_of(outline):
    """Return the ascending tuple of the pairs (plane, picture) of all planes with faces."""
    borders = {plane: [] for plane in outline.bits}
    for line, table in outline.edges:
        for plane in line.through:
            borders[plane].extend(_borders_at(plane, line, table, outline.bits))
    found = []
    for plane in sorted(outline.bits):
        sides = far_sides(plane, outline.bits)
        base = KINDS[outline.rooms[sides], outline.rooms[sides + outline.bits[plane]]]
        if base != 0 or borders[plane]:
            found.append((plane, picture_of(base, borders[plane])))
    return tuple(found)


def _borders_at(plane, line, table, bits):
    """Return the list of the borders on an edge in a plane."""
    left, right = sides_beside(plane, line, bits)
    greater_left, greater_right = left + bits[plane], right + bits[plane]
    if table[left] == table[greater_left] and table[right] == table[greater_right]:
        return []
    lefts = [KINDS[pair] for pair in zip(table[left], table[greater_left])]
    rights = [KINDS[pair] for pair in zip(table[right], table[greater_right])]
    return borders_on(plane, line, lefts, rights)
