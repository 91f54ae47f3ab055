"""Solids that are asked by sides.

Each plane has a bit: an integer that is 1 or a power of 2. The sides of a point are the sum of the
bits of all planes on whose greater side it lies. All points with the same sides are alike to a
solid.
"""

from solidforms.planes import bits_of, plane_of
from solidforms.solids import half_spaces, inner_solids

# A box stands for this many half spaces.
BOX_HALVES = 6


class Body:
    """A solid, and the bits of its planes; those that are numbered have the bits given."""

    def __init__(self, solid, numbered):
        halves = half_spaces(solid)
        planes = [plane_of(half) for half in halves]
        self.bits = bits_of(sorted(set(planes)), numbered)
        leaves = [_leaf_of(half, self.bits[plane]) for half, plane in zip(halves, planes)]
        self._tree, _ = _tree_of(solid, leaves, 0)

    def holds(self, sides):
        """Return whether points with these sides lie inside."""
        return _holds(self._tree, sides)


def sides_at(bits, point):
    """Return the sides of a point of space; if it lies on planes, those of a point near it."""
    x, y, z, bottom = point
    found = 0
    for (a, b, c, d), bit in bits.items():
        # A tiny step to greater x, and tinier ones to greater y and to greater z, lead from any
        # plane to its greater side, since its first factor that is not 0 is greater than 0.
        if a * x + b * y + c * z >= d * bottom:
            found += bit
    return found


def _leaf_of(half, bit):
    """Return a half space as a leaf: the bits that count, and what they must be."""
    return ("sides", bit, bit if half[:3] < (0, 0, 0) else 0)


def _all_of(leaves):
    """Return one leaf for what lies in the half spaces of several ones, of unlike planes."""
    return ("sides", sum([leaf[1] for leaf in leaves]), sum([leaf[2] for leaf in leaves]))


def _tree_of(solid, leaves, at):
    """Return the solid without its moves and turns, which the leaves have gone through, and the
    place of the first leaf behind it."""
    word = solid[0]
    if word == "half":
        return leaves[at], at + 1
    if word == "box":
        end = at + BOX_HALVES
        return _all_of(leaves[at:end]), end
    branches = []
    for inner in inner_solids(solid):
        branch, at = _tree_of(inner, leaves, at)
        branches.append(branch)
    if word == "moved" or word == "turned":
        return branches[0], at
    return (word, *branches), at


def _holds(tree, sides):
    word = tree[0]
    if word == "sides":
        return (sides & tree[1]) == tree[2]
    first = _holds(tree[1], sides)
    if word == "not":
        return not first
    if word == "both":
        return first and _holds(tree[2], sides)
    if word == "either":
        return first or _holds(tree[2], sides)
    return first and not _holds(tree[2], sides)
