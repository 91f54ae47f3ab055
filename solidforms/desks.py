"""Desks on which a solid is changed."""

from solidforms.errors import NothingToUndo, TooMany
from solidforms.ratios import minus
from solidforms.solids import check_solid, is_solid
from solidforms.volumes import bounded_outline, volume


class Desk:
    """A solid with bounds, and the changes that it has gone through.

    A state of the solid is a pair: the solid, and its volume.
    """

    def __init__(self, solid):
        self._begin = (solid, volume(solid))
        self._done = []
        self._undone = []

    def add(self, solid):
        """Add a solid to that of the desk; return by how much the volume becomes greater."""
        # This raises what is to be raised of a solid without bounds, ahead of all else.
        bounded_outline(solid, {})
        return self._change(("either", self.solid(), solid))

    def cut(self, solid):
        """Cut a solid from that of the desk; return by how much the volume becomes greater."""
        check_solid(solid)
        return self._change(("cut", self.solid(), solid))

    def undo(self):
        """Revert the last change; return by how much the volume becomes greater."""
        if not self._done:
            raise NothingToUndo("there is no change to undo")
        _, before = self._state()
        self._undone.append(self._done.pop())
        return self._growth_from(before)

    def redo(self):
        """Perform the last undone change again; return by how much the volume becomes greater."""
        if not self._undone:
            raise NothingToUndo("there is no change to perform again")
        _, before = self._state()
        self._done.append(self._undone.pop())
        return self._growth_from(before)

    def solid(self):
        """Return the solid of the desk."""
        return self._state()[0]

    def __len__(self):
        return len(self._done)

    def __eq__(self, other):
        return isinstance(other, Desk) and self._begin == other._begin and self._done == other._done

    def _state(self):
        return self._done[-1] if self._done else self._begin

    def _growth_from(self, before):
        """Return by how much the volume is greater than one before."""
        return minus(self._state()[1], before)

    def _change(self, solid):
        """Make a solid that of the desk, if it is one; return by how much the volume becomes greater."""
        if not is_solid(solid):
            raise TooMany("the change leads beyond what a solid can be")
        _, before = self._state()
        self._done.append((solid, volume(solid)))
        self._undone = []
        return self._growth_from(before)
