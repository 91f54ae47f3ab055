"""The exceptions of the package."""


class SolidError(ValueError):
    """What all exceptions of the package are."""


class InvalidSolid(SolidError):
    """The value is not a solid."""


class InvalidPoint(SolidError):
    """The value is not a point."""


class InvalidAxis(SolidError):
    """The value is not 0, 1 or 2."""


class InvalidLevel(SolidError):
    """The value is not a level of a cut."""


class InvalidText(SolidError):
    """The value is not the text of a solid."""


class OnFace(SolidError):
    """A point, a level or a line meets a face where it must not."""


class NoBounds(SolidError):
    """The solid lies within no box, however great."""


class NotConvex(SolidError):
    """The solid is not convex, or the same as no points."""


class Blank(SolidError):
    """The solid is the same as no points."""


class TooMany(SolidError):
    """A change of a desk would lead beyond what a solid can be."""


class NothingToUndo(SolidError):
    """There is no change to undo or to redo."""
