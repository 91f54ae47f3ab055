"""Parts and holes of solids."""

from solidforms.bodies import Body
from solidforms.flats import edges_of, far_sides, traces_in
from solidforms.solids import check_solid


def count_parts(solid):
    """Return how many parts a solid has."""
    return len([holds for holds, _ in _pieces_of(solid) if holds])


def count_holes(solid):
    """Return how many holes a solid has."""
    return len([holds for holds, endless in _pieces_of(solid) if not holds and not endless])


def _pieces_of(solid):
    """Return a pair for each piece of space that hangs together off the faces: whether it lies
    inside the solid, and whether it goes on for ever."""
    check_solid(solid)
    body = Body(solid)
    neighbours, endless = _rooms_of(body)
    pieces = []
    seen = {}
    for room in neighbours:
        if room not in seen:
            piece = _hanging_together(room, neighbours)
            seen.update({found: True for found in piece})
            pieces.append((body.holds(room), any([endless[found] for found in piece])))
    return pieces


def _rooms_of(body):
    """Return two dicts of the rooms into which the planes of a body cut space, told by their
    sides: the list of those that each one hangs together with across one plane, and whether it
    goes on for ever."""
    neighbours = {}
    endless = {}
    for place, plane in enumerate(body.planes):
        patches = _patches_in(traces_in(plane, body.planes))
        for sides, goes_on in patches.items():
            lesser, greater = sides, sides + (1 << place)
            for room in (lesser, greater):
                # A room that goes on for ever has a wall that does so, too.
                endless[room] = goes_on or endless.get(room, False)
                neighbours.setdefault(room, [])
            if body.kind(place, sides) == 0:
                neighbours[lesser].append(greater)
                neighbours[greater].append(lesser)
    return neighbours, endless


def _patches_in(traces):
    """Return a dict of the patches into which lines cut a plane, told by their sides, and whether
    they go on for ever."""
    found = {far_sides(traces): True}
    for _, start, end, left, right in edges_of(traces):
        for sides in (left, right):
            # A patch that goes on for ever has an edge that does so, too.
            found[sides] = start is None or end is None or found.get(sides, False)
    return found


def _hanging_together(room, neighbours):
    """Return the list of all rooms that hang together with one, itself included."""
    found = {room: True}
    waiting = [room]
    while waiting:
        here = waiting.pop()
        for other in neighbours[here]:
            if other not in found:
                found[other] = True
                waiting.append(other)
    return list(found)
