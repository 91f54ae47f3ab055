"""Parts and holes of solids."""

from solidforms.bodies import Body
from solidforms.flats import far_sides
from solidforms.lines import lines_of, sides_beside
from solidforms.solids import check_solid


def count_parts(solid):
    """Return how many parts a solid has."""
    return len([holds for holds, _ in _pieces_of(solid) if holds])


def count_holes(solid):
    """Return how many holes a solid has."""
    return len([holds for holds, endless in _pieces_of(solid) if not holds and not endless])


def _pieces_of(solid):
    """Return a pair for each piece of space that hangs together off the faces: whether it lies
    inside the solid, and whether it goes on for ever."""
    check_solid(solid)
    body = Body(solid, {})
    neighbours, endless = _rooms_of(body)
    pieces = []
    seen = {}
    for room in neighbours:
        if room not in seen:
            piece = _hanging_together(room, neighbours)
            seen.update({found: True for found in piece})
            pieces.append((body.holds(room), any([endless[found] for found in piece])))
    return pieces


def _rooms_of(body):
    """Return two dicts of the rooms into which the planes of a body cut space, told by their
    sides: the list of those that each one hangs together with across one plane, and whether it
    goes on for ever."""
    neighbours = {}
    endless = {}
    for plane, patches in _patches_of(body).items():
        bit = body.bits[plane]
        for sides, goes_on in patches.items():
            lesser, greater = sides, sides + bit
            for room in (lesser, greater):
                # A room that goes on for ever has a wall that does so, too.
                endless[room] = goes_on or endless.get(room, False)
                neighbours.setdefault(room, [])
            if body.holds(lesser) == body.holds(greater):
                neighbours[lesser].append(greater)
                neighbours[greater].append(lesser)
    return neighbours, endless


def _patches_of(body):
    """Return a dict of the patches into which lines cut each plane of a body: by the sides of
    their points, whether they go on for ever."""
    patches = {plane: {far_sides(plane, body.bits): True} for plane in body.bits}
    for line in lines_of(body.bits):
        for plane in line.through:
            found = patches[plane]
            for beside in sides_beside(plane, line, body.bits):
                for sides in line.stretches:
                    found.setdefault(sides + beside, False)
                # A patch that goes on for ever has an edge that does so, too.
                for sides in (line.stretches[0], line.stretches[-1]):
                    found[sides + beside] = True
    return patches


def _hanging_together(room, neighbours):
    """Return the list of all rooms that hang together with one, itself included."""
    found = {room: True}
    waiting = [room]
    while waiting:
        here = waiting.pop()
        for other in neighbours[here]:
            if other not in found:
                found[other] = True
                waiting.append(other)
    return list(found)
