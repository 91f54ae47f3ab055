"""Whether solids are the same, lie within each other, and where they part."""

from solidforms.bodies import Body, differing, sides_at
from solidforms.faces import faces_of, form_of
from solidforms.flats import first_places, is_line, traces_in
from solidforms.forms import face_planes
from solidforms.ratios import ascending, is_less, lowest, middles, over_one_bottom
from solidforms.solids import check_solid


def same(solid, other):
    """Return whether two solids differ in points of some planes alone."""
    check_solid(solid)
    check_solid(other)
    return form_of(solid) == form_of(other)


def is_within(solid, other):
    """Return whether nothing but points of some planes is in the first solid alone."""
    check_solid(solid)
    check_solid(other)
    return form_of(("cut", solid, other)) == ((), False)


def parting(solid, other):
    """Return the first point round which just one of two solids lies, or None."""
    check_solid(solid)
    check_solid(other)
    body = Body(differing(solid, other))
    faces = faces_of(body)
    if not faces and not body.holds(0):
        return None
    planes = sorted(set(face_planes(solid) + face_planes(other)))
    levels = middles(_places_of_x(planes))
    found = _first_point(body, planes, levels[0])
    if found is None:
        # Nothing differs up to the least x of the faces of what differs, and there it begins.
        begin = _least_x(faces)
        later = [x for x in levels if is_less(begin, x)]
        found = _first_point(body, planes, later[0])
    return found


def _places_of_x(planes):
    """Return the ascending list of the places of x that planes give."""
    found = []
    for plane in planes:
        if _has_one_x(plane):
            found.append(lowest((plane[3], plane[0])))
        else:
            # The first coordinate that is kept in such a plane is x.
            found.extend(first_places(traces_in(plane, planes)))
    return ascending(found)


def _has_one_x(plane):
    return plane[1] == 0 and plane[2] == 0


def _least_x(faces):
    """Return the least x of the faces of something that has points at no x below it."""
    found = []
    for plane, (_, borders) in faces:
        if _has_one_x(plane):
            found.append(lowest((plane[3], plane[0])))
            continue
        for (p, q, r), start, _, _, _ in borders:
            if q == 0:
                found.append(lowest((-r, p)))
            elif start is not None:
                found.append(start[0])
    return ascending(found)[0]


def _first_point(body, planes, x):
    """Return the first point at an x that the body lies round, or None."""
    top, bottom = x
    traces = traces_in((bottom, 0, 0, top), planes)
    for y in middles(first_places(traces)):
        for z in middles(_places_of_z(traces, y)):
            if body.holds(sides_at(body.planes, over_one_bottom((x, y, z)))):
                return (x, y, z)
    return None


def _places_of_z(traces, y):
    """Return the ascending list of the z at which lines are at this y."""
    top, bottom = y
    lines = [trace for trace in traces if is_line(trace)]
    return ascending([lowest((-p * top - r * bottom, q * bottom)) for p, q, r in lines if q != 0])
