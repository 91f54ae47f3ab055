"""What a fraction and a point are when a caller gives them."""

from math import gcd

from solidforms.errors import InvalidPoint
from solidforms.solids import lies_between


def check_point(value):
    """Raise InvalidPoint if this is not a point."""
    if not isinstance(value, tuple) or len(value) != 3:
        raise InvalidPoint("a point is a tuple of three fractions")
    if not all([is_fraction(part, 10 ** 30) for part in value]):
        raise InvalidPoint("a coordinate is not a fraction")


def is_fraction(value, greatest):
    """Return whether the value is a fraction with no top or bottom beyond the greatest one."""
    if not isinstance(value, tuple) or len(value) != 2:
        return False
    top, bottom = value
    if not lies_between(top, -greatest, greatest) or not lies_between(bottom, 1, greatest):
        return False
    return gcd(top, bottom) == 1
