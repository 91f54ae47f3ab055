"""What a solid is, and the half spaces that it is built of."""

from solidforms.errors import InvalidSolid
from solidforms.planes import LAST_TURN, box_halves, moved_half, plane_of, turned_half

DEEPEST = 12
MOST_SOLIDS = 40
MOST_PLANES = 12
GREATEST_FACTOR = 3
GREATEST_NUMBER = 9

# What stands behind each word in a solid, in order.
PARTS = {
    "half": ("factor", "factor", "factor", "level"),
    "box": ("triple", "triple"),
    "both": ("solid", "solid"),
    "either": ("solid", "solid"),
    "cut": ("solid", "solid"),
    "not": ("solid",),
    "moved": ("triple", "solid"),
    "turned": ("turn", "solid"),
}


def is_solid(value):
    """Return whether the value is a solid."""
    many = 0
    waiting = [(value, 1)]
    while waiting:
        found, depth = waiting.pop()
        many += 1
        if many > MOST_SOLIDS or depth > DEEPEST or not _is_built(found):
            return False
        waiting.extend([(inner, depth + 1) for inner in inner_solids(found)])
    return len(planes_of(value)) <= MOST_PLANES


def count_planes(solid):
    """Return how many planes the half spaces and boxes of a solid have."""
    check_solid(solid)
    return len(planes_of(solid))


def check_solid(solid):
    """Raise InvalidSolid if this is not a solid."""
    if not is_solid(solid):
        raise InvalidSolid("this is not a solid")


def inner_solids(solid):
    """Return the list of the solids that stand directly in a solid."""
    kinds = PARTS[solid[0]]
    return [part for part, kind in zip(solid[1:], kinds) if kind == "solid"]


def half_spaces(solid):
    """Return all half spaces of a solid, also of its boxes, as they stand
    when all moves and turns around them have been performed."""
    if solid[0] == "half":
        return [solid[1:]]
    if solid[0] == "box":
        return box_halves(solid[1], solid[2])
    halves = []
    for inner in inner_solids(solid):
        halves.extend(half_spaces(inner))
    if solid[0] == "moved":
        return [moved_half(solid[1], half) for half in halves]
    if solid[0] == "turned":
        return [turned_half(solid[1], half) for half in halves]
    return halves


def planes_of(solid):
    """Return the ascending list of the planes of all half spaces of a solid."""
    return sorted({plane_of(half) for half in half_spaces(solid)})


def _is_built(value):
    """Return whether the value is like a solid, apart from those in it."""
    if not isinstance(value, tuple) or not value:
        return False
    word = value[0]
    if not isinstance(word, str) or word not in PARTS:
        return False
    kinds = PARTS[word]
    if len(value) != 1 + len(kinds):
        return False
    if not all([_fits(kind, part) for part, kind in zip(value[1:], kinds)]):
        return False
    if word == "half":
        return value[1:4] != (0, 0, 0)
    if word == "box":
        return all([low < high for low, high in zip(value[1], value[2])])
    return True


def _fits(kind, part):
    """Return whether a part may stand where parts of this kind are wanted."""
    if kind == "solid":
        # is_solid looks at the inner solids itself, since it counts them.
        return True
    if kind == "triple":
        return _is_triple(part)
    if kind == "turn":
        return lies_between(part, 0, LAST_TURN)
    greatest = GREATEST_FACTOR if kind == "factor" else GREATEST_NUMBER
    return lies_between(part, -greatest, greatest)


def _is_triple(value):
    """Return whether the value can be a corner of a box, or a shift."""
    if not isinstance(value, tuple) or len(value) != 3:
        return False
    return all([lies_between(number, -GREATEST_NUMBER, GREATEST_NUMBER) for number in value])


def lies_between(value, least, greatest):
    """Return whether the value is an integer that is not out of bounds."""
    if not isinstance(value, int) or isinstance(value, bool):
        return False
    return least <= value <= greatest
