"""Whether solids are the same, lie within each other, and where they part."""

from solidforms.bodies import Body
from solidforms.faces import faces_along, form_of
from solidforms.flats import first_places, traces_in
from solidforms.lines import Line, lines_of, rooms_of
from solidforms.pairs import Core, Difference
from solidforms.ratios import ascending, is_less, middles, over_one_bottom, ratio
from solidforms.solids import check_solid


def same(solid, other):
    """Return whether two solids differ in points of some planes alone."""
    check_solid(solid)
    check_solid(other)
    return form_of(solid) == form_of(other)


def is_within(solid, other):
    """Return whether nothing but points of some planes is in the first solid alone."""
    check_solid(solid)
    check_solid(other)
    first, second = _cores_of(solid, other)
    bits = {**first.bits, **second.bits}
    rooms = rooms_of(bits, lines_of(bits))
    return not any([first.holds(sides) and not second.holds(sides) for sides in rooms])


def parting(solid, other):
    """Return the first point round which just one of two solids lies, or None."""
    check_solid(solid)
    check_solid(other)
    first, second = _cores_of(solid, other)
    gap = Difference(first, second)
    lines = lines_of(gap.bits)
    faces = faces_along(gap, lines)
    if not faces and not gap.holds(0):
        return None
    levels = middles(_places_of_x(gap.bits, lines))
    found = _first_point(gap, levels[0])
    if found is None:
        # Nothing differs up to the least x of the faces of what differs, and there it begins.
        begin = _least_x(faces)
        later = [x for x in levels if is_less(begin, x)]
        found = _first_point(gap, later[0])
    return found


def _cores_of(solid, other):
    """Return the cores of two solids, in which planes have the same bits."""
    first = Core(Body(solid, {}))
    return first, Core(Body(other, first.numbered))


def _places_of_x(planes, lines):
    """Return the ascending list of the places of x that planes give."""
    found = [ratio(plane[3], plane[0]) for plane in planes if _has_one_x(plane)]
    for line in lines:
        if line.way[0] == 0:
            found.append(line.coordinate(0, 0))
        else:
            found.extend([line.coordinate(0, mark) for mark in line.marks])
    return ascending(found)


def _has_one_x(plane):
    return plane[1] == 0 and plane[2] == 0


def _least_x(faces):
    """Return the least x of the faces of something that has points at no x below it."""
    found = []
    for plane, (_, borders) in faces:
        if _has_one_x(plane):
            found.append(ratio(plane[3], plane[0]))
            continue
        for (p, q, r), start, _, _, _ in borders:
            if q == 0:
                found.append(ratio(-r, p))
            elif start is not None:
                found.append(start[0])
    return ascending(found)[0]


def _first_point(gap, x):
    """Return the first point at an x round which what differs lies, or None."""
    top, bottom = x
    for y in middles(first_places(traces_in((bottom, 0, 0, top), gap.bits))):
        line = Line(over_one_bottom((x, y, (0, 1))), (0, 0, 1), gap.bits)
        held = [gap.holds(sides) for sides in line.stretches]
        if any(held):
            levels = middles([line.coordinate(2, mark) for mark in line.marks])
            return (x, y, levels[held.index(True)])
    return None
