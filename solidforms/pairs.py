"""Solids told by the planes of their faces alone, and pairs of such."""

from solidforms.outlines import planes_with_faces


class Core:
    """A solid, told by the planes of its faces alone.

    The other planes part no points that are unlike to the solid. So it is known of each room
    between the planes of the faces whether it lies inside: some room between all planes lies in it.
    """

    def __init__(self, outline):
        self.bits = {plane: outline.bits[plane] for plane in planes_with_faces(outline)}
        self._mask = sum(self.bits.values())
        self._rooms = {sides & self._mask: is_held for sides, is_held in outline.rooms.items()}
        self.filled = [sides for sides, is_held in self._rooms.items() if is_held]

    def holds(self, sides):
        """Return whether points with these sides, of these planes and others, lie inside."""
        return self._rooms[sides & self._mask]


class Difference:
    """What is in just one of two solids, told by the planes of the faces of both."""

    def __init__(self, first, second):
        self.bits = {**first.bits, **second.bits}
        self._first = first
        self._second = second

    def holds(self, sides):
        """Return whether points with these sides lie inside just one of the solids."""
        return self._first.holds(sides) != self._second.holds(sides)
