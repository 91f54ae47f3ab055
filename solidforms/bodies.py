"""Solids that are asked by sides.

The sides of a point are an integer: its bit number k is set if the point lies on the greater
side of plane number k. All points with the same sides are alike to the solid.
"""

from solidforms.planes import plane_of
from solidforms.solids import half_spaces, inner_solids

# A box stands for this many half spaces.
BOX_HALVES = 6


class Body:
    """A solid, its planes, and what has been found out about sides."""

    def __init__(self, solid):
        halves = half_spaces(solid)
        self.planes = sorted({plane_of(half) for half in halves})
        bits = {plane: 1 << place for place, plane in enumerate(self.planes)}
        self._tree, _ = _tree_of(solid, [_leaf_of(half, bits) for half in halves], 0)
        self._known = {}

    def holds(self, sides):
        """Return whether points with these sides lie inside."""
        if sides not in self._known:
            self._known[sides] = _holds(self._tree, sides)
        return self._known[sides]

    def kind(self, place, sides):
        """Return the kind of points of the plane with this place that have these sides of the
        other planes, its own bit not being set."""
        lesser = self.holds(sides)
        greater = self.holds(sides + (1 << place))
        if greater == lesser:
            return 0
        return 1 if greater else 2


def differing(solid, other):
    """Return a solid, perhaps beyond the limits of one, of what is in just one of both."""
    return ("either", ("cut", solid, other), ("cut", other, solid))


def sides_at(planes, point):
    """Return the sides of a point of space; if it lies on planes, those of a point near it."""
    x, y, z, bottom = point
    found = 0
    for place, (a, b, c, d) in enumerate(planes):
        # A tiny step to greater x, and tinier ones to greater y and to greater z, lead from any
        # plane to its greater side, since its first factor that is not 0 is greater than 0.
        if a * x + b * y + c * z >= d * bottom:
            found += 1 << place
    return found


def _leaf_of(half, bits):
    """Return a half space as a leaf: the bits that count, and what they must be."""
    bit = bits[plane_of(half)]
    return ("sides", bit, bit if half[:3] < (0, 0, 0) else 0)


def _all_of(leaves):
    """Return one leaf for what lies in the half spaces of several ones, of unlike planes."""
    return ("sides", sum([leaf[1] for leaf in leaves]), sum([leaf[2] for leaf in leaves]))


def _tree_of(solid, leaves, at):
    """Return the solid without its moves and turns, which the leaves have gone through, and the
    place of the first leaf behind it."""
    word = solid[0]
    if word == "half":
        return leaves[at], at + 1
    if word == "box":
        end = at + BOX_HALVES
        return _all_of(leaves[at:end]), end
    branches = []
    for inner in inner_solids(solid):
        branch, at = _tree_of(inner, leaves, at)
        branches.append(branch)
    if word == "moved" or word == "turned":
        return branches[0], at
    return (word, *branches), at


def _holds(tree, sides):
    word = tree[0]
    if word == "sides":
        return (sides & tree[1]) == tree[2]
    first = _holds(tree[1], sides)
    if word == "not":
        return not first
    if word == "both":
        return first and _holds(tree[2], sides)
    if word == "either":
        return first or _holds(tree[2], sides)
    return first and not _holds(tree[2], sides)
