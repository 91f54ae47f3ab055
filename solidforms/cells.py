"""Parts and holes of solids."""

from solidforms.bodies import Body
from solidforms.outlines import Outline
from solidforms.solids import check_solid


def count_parts(solid):
    """Return how many parts a solid has."""
    return len([is_held for is_held, _ in _pieces_of(solid) if is_held])


def count_holes(solid):
    """Return how many holes a solid has."""
    return len([is_held for is_held, endless in _pieces_of(solid) if not is_held and not endless])


def _pieces_of(solid):
    """Return a pair for each piece of space that hangs together off the faces: whether it lies
    inside the solid, and whether it goes on for ever."""
    check_solid(solid)
    outline = Outline(Body(solid, {}))
    pieces = []
    seen = {}
    for room, is_held in outline.rooms.items():
        if room not in seen:
            piece = _hanging_together(room, outline)
            seen.update({found: True for found in piece})
            pieces.append((is_held, any([found in outline.endless for found in piece])))
    return pieces


def _hanging_together(room, outline):
    """Return the list of all rooms that hang together with one, itself included."""
    is_held = outline.rooms[room]
    bits = list(outline.bits.values())
    found = {room: True}
    waiting = [room]
    while waiting:
        here = waiting.pop()
        for bit in bits:
            # Two rooms with one plane between them have a wall in common.
            beside = here ^ bit
            if beside not in found and beside in outline.rooms and outline.rooms[beside] == is_held:
                found[beside] = True
                waiting.append(beside)
    return list(found)
