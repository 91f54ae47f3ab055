"""Whether solids are the same, lie within each other, and where they part."""

from solidforms.bodies import Body
from solidforms.flats import first_places, traces_in
from solidforms.lines import Line
from solidforms.outlines import Outline, mixed_stretches, planes_with_faces
from solidforms.pairs import Core, Difference
from solidforms.ratios import ascending, is_less, middles, minus, over_one_bottom, plus, ratio, times
from solidforms.solids import check_solid


def same(solid, other):
    """Return whether two solids differ in points of some planes alone."""
    first, second = _cores_of(solid, other)
    return first.bits == second.bits and sorted(first.filled) == sorted(second.filled)


def is_within(solid, other):
    """Return whether nothing but points of some planes is in the first solid alone."""
    first, second = _cores_of(solid, other)
    rooms = Outline(Difference(first, second)).rooms
    return not any([differs and first.holds(sides) for sides, differs in rooms.items()])


def parting(solid, other):
    """Return the first point round which just one of two solids lies, or None."""
    first, second = _cores_of(solid, other)
    gap = Difference(first, second)
    outline = Outline(gap)
    if not any(outline.rooms.values()):
        return None
    found = _first_point(gap, _first_level(outline))
    if found is None:
        # Nothing differs up to the least x of the faces of what differs, and there it begins.
        found = _first_point(gap, _level_above(outline, _least_x(outline)))
    return found


def _cores_of(solid, other):
    """Return the cores of two solids, in which planes have the same bits."""
    check_solid(solid)
    check_solid(other)
    first = Outline(Body(solid, {}))
    second = Outline(Body(other, first.bits))
    return Core(first), Core(second)


def _first_level(outline):
    """Return the first x at which points are looked for."""
    places = ascending(_places_above(outline, None))
    return minus(places[0], (1, 1)) if places else (0, 1)


def _level_above(outline, place):
    """Return the x at which points are looked for next above a place of x."""
    places = ascending(_places_above(outline, place))
    return times(plus(place, places[0]), (1, 2)) if places else plus(place, (1, 1))


def _places_above(outline, least):
    """Return a list of places of x above a number, or of all if it is None; of those on each line
    just the first one."""
    found = [ratio(plane[3], plane[0]) for plane in outline.bits if plane[1] == 0 and plane[2] == 0]
    for line in outline.lines:
        if line.way[0] == 0:
            found.append(line.coordinates(0)[0])
        else:
            found.extend([line.coordinates(mark)[0] for mark in _marks_above(line, least)[:1]])
    return [x for x in found if least is None or is_less(least, x)]


def _marks_above(line, least):
    """Return the list of the marks of a line at an x above a number, by their x."""
    step = line.way[0]
    marks = line.marks if step > 0 else line.marks[::-1]
    if least is None:
        return marks
    top, bottom = least
    start = line.scale * (top * line.spot[3] - bottom * line.spot[0])
    return [mark for mark in marks if mark * step * bottom > start]


def _least_x(outline):
    """Return the least x of the faces of something that has no points at the least x of all."""
    # Without edges all planes are parallel to each other: each of them has one x.
    found = [] if outline.edges else [ratio(plane[3], plane[0]) for plane in planes_with_faces(outline)]
    for line, table in outline.edges:
        mixed = mixed_stretches(table)
        # The marks stand between the stretches.
        if line.way[0] > 0:
            found.append(line.coordinates(line.marks[mixed[0] - 1])[0])
        elif line.way[0] < 0:
            found.append(line.coordinates(line.marks[mixed[-1]])[0])
        else:
            found.append(line.coordinates(0)[0])
    return ascending(found)[0]


def _first_point(gap, x):
    """Return the first point at an x round which what differs lies, or None."""
    top, bottom = x
    for y in middles(first_places(traces_in((bottom, 0, 0, top), gap.bits))):
        line = Line(over_one_bottom((x, y, (0, 1))), (0, 0, 1), gap.bits)
        held = [gap.holds(sides) for sides in line.stretches]
        if any(held):
            levels = middles([line.coordinates(mark)[2] for mark in line.marks])
            return (x, y, levels[held.index(True)])
    return None
