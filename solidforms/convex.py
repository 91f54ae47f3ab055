"""Whether solids are convex, and which of their parts are needless."""

from solidforms.bodies import Body
from solidforms.errors import NotConvex
from solidforms.outlines import Outline
from solidforms.pairs import Core
from solidforms.solids import PARTS, check_solid

# The words of solids that are built of two solids.
JOINING = ("both", "either", "cut")


def is_convex(solid):
    """Return whether a solid is the same as a convex set of points."""
    # No plane of a face goes through what is convex: it fills one room between these planes.
    return len(_core_of(solid).filled) <= 1


def halves(solid):
    """Return the ascending tuple of the fewest half spaces (a, b, c, d) whose common points are the
    same as a solid; raise NotConvex if there are none."""
    core = _core_of(solid)
    if len(core.filled) != 1:
        raise NotConvex("the solid is not convex, or the same as no points")
    # Each plane of a face bounds the one room, so that none of them can be left out.
    found = [_half_towards(plane, core.filled[0] & bit) for plane, bit in core.bits.items()]
    return tuple(sorted(found))


def needless_parts(solid):
    """Return the sorted tuple of the paths of all solids in a solid that are built of two and could,
    each by itself, be replaced by their first one, the whole solid staying the same."""
    check_solid(solid)
    outline = Outline(Body(solid, {}))
    found = []
    for path in _joining_paths(solid, ()):
        # What is left has no other planes, so that the same rooms tell all of it.
        less = Body(_with_first(solid, path), outline.bits)
        if all([less.holds(sides) == is_held for sides, is_held in outline.rooms.items()]):
            found.append(path)
    return tuple(sorted(found))


def _core_of(solid):
    check_solid(solid)
    return Core(Outline(Body(solid, {})))


def _half_towards(plane, greater):
    """Return the half space on one side of a plane: on its greater side if that number is not 0."""
    return tuple([-number for number in plane]) if greater else plane


def _joining_paths(solid, path):
    """Return the list of the paths of all solids in a solid, itself included, that are built of two."""
    found = [path] if solid[0] in JOINING else []
    for place, kind in enumerate(PARTS[solid[0]], start=1):
        if kind == "solid":
            found.extend(_joining_paths(solid[place], (*path, place)))
    return found


def _with_first(solid, path):
    """Return a solid in which the one at a path is replaced by its first solid."""
    if not path:
        return solid[1]
    place = path[0]
    return (*solid[:place], _with_first(solid[place], path[1:]), *solid[place + 1:])
