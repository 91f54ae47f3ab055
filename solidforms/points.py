"""What fractions, points, axes and levels are when a caller gives them."""

from math import gcd

from solidforms.errors import InvalidAxis, InvalidLevel, InvalidPoint
from solidforms.solids import lies_between


def check_point(value):
    """Raise InvalidPoint if this is not a point."""
    if not isinstance(value, tuple) or len(value) != 3:
        raise InvalidPoint("a point is a tuple of three fractions")
    if not all([is_fraction(part, 10 ** 30) for part in value]):
        raise InvalidPoint("a coordinate is not a fraction")


def check_axis(value):
    """Raise InvalidAxis if this is not the number of an axis."""
    if not lies_between(value, 0, 2):
        raise InvalidAxis("an axis is 0, 1 or 2")


def check_level(value):
    """Raise InvalidLevel if this is not a level of a cut."""
    if not is_fraction(value, 10 ** 6):
        raise InvalidLevel("a level is a fraction of numbers that are not too great")


def is_fraction(value, greatest):
    """Return whether the value is a fraction with no top or bottom beyond the greatest one."""
    if not isinstance(value, tuple) or len(value) != 2:
        return False
    top, bottom = value
    if not lies_between(top, -greatest, greatest) or not lies_between(bottom, 1, greatest):
        return False
    return gcd(top, bottom) == 1
