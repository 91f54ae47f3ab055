"""The turns and whole shifts that lead one solid to another one."""

from solidforms.errors import Blank
from solidforms.planes import LAST_TURN, moved_half, plane_of, turned_half, turned_triple
from solidforms.pairs import Core
from solidforms.ratios import over_one_bottom
from solidforms.volumes import bounded_outline, box_round


def moves(solid, other):
    """Return the ascending tuple of all pairs (number, shift) of a turn and a whole shift that lead
    a solid to another one."""
    outline = bounded_outline(solid, {})
    other_outline = bounded_outline(other, {})
    if not outline.edges or not other_outline.edges:
        raise Blank("one of the solids is the same as no points")
    low, high = box_round(outline)
    goal_low, goal_high = box_round(other_outline)
    core, goal = Core(outline), Core(other_outline)
    *corners, bottom = over_one_bottom((*low, *high, *goal_low, *goal_high))
    found = []
    for number in range(LAST_TURN + 1):
        shift = _shift_after(number, corners, bottom)
        if shift is not None and _leads(number, shift, core, goal):
            found.append((number, shift))
    return tuple(found)


def _shift_after(number, corners, bottom):
    """Return the whole shift that leads a box, turned, to another box, None if there is none; given
    are the tops of the corners of both, over one bottom."""
    pairs = list(zip(turned_triple(number, corners[:3]), turned_triple(number, corners[3:6])))
    turned = [min(pair) for pair in pairs] + [max(pair) for pair in pairs]
    steps = [goal - start for start, goal in zip(turned, corners[6:])]
    if steps[:3] != steps[3:] or any([step % bottom != 0 for step in steps]):
        return None
    return tuple([step // bottom for step in steps[:3]])


def _leads(number, shift, core, goal):
    """Return whether a turn and a shift lead one solid to another one."""
    changes = []
    for plane, start in core.bits.items():
        # The half space on the lesser side of the plane tells which side is led to which.
        half = moved_half(shift, turned_half(number, plane))
        led = plane_of(half)
        if led not in goal.bits:
            return False
        changes.append((start, goal.bits[led], half[:3] < (0, 0, 0)))
    rooms = [
        sum([end for bit, end, swapped in changes if ((sides & bit) != 0) != swapped])
        for sides in core.filled
    ]
    return len(changes) == len(goal.bits) and sorted(rooms) == sorted(goal.filled)
