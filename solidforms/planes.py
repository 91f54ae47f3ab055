"""Half spaces (a, b, c, d), their planes, and how moves and turns lead them."""

from math import gcd

# The places that the coordinates of a turned point come from: the turns
# 8 * k to 8 * k + 7 take entry number k.
TURN_ORDERS = ((0, 1, 2), (0, 2, 1), (1, 0, 2), (1, 2, 0), (2, 0, 1), (2, 1, 0))
LAST_TURN = 47


def box_halves(low, high):
    """Return the six half spaces that have just a box in common."""
    return [
        (-1, 0, 0, -low[0]),
        (0, -1, 0, -low[1]),
        (0, 0, -1, -low[2]),
        (1, 0, 0, high[0]),
        (0, 1, 0, high[1]),
        (0, 0, 1, high[2]),
    ]


def turned_triple(number, triple):
    """Return three coordinates as the turn with this number leads them."""
    picked = [triple[place] for place in TURN_ORDERS[number // 8]]
    negatives = (number & 4, number & 2, number & 1)
    return tuple([-x if negative else x for x, negative in zip(picked, negatives)])


def turned_half(number, half):
    """Return a half space as the turn with this number leads it."""
    # A turn keeps 0 and all angles: the direction out of the half space is
    # led like a point, and its level stays.
    a, b, c = turned_triple(number, half[:3])
    return (a, b, c, half[3])


def moved_half(shift, half):
    """Return a half space as a move by a shift leads it."""
    a, b, c, d = half
    return (a, b, c, d + a * shift[0] + b * shift[1] + c * shift[2])


def plane_of(half):
    """Return the plane that bounds a half space, in its one form."""
    a, b, c, d = half
    divisor = gcd(a, b, c, d)
    if (a, b, c) < (0, 0, 0):
        divisor = -divisor
    return (a // divisor, b // divisor, c // divisor, d // divisor)


def bits_of(planes, numbered):
    """Return a dict of planes that leads each one to a bit of its own; those that are numbered, in
    such a dict, keep theirs."""
    bits = {}
    fresh = 1 << len(numbered)
    for plane in planes:
        if plane in numbered:
            bits[plane] = numbered[plane]
        else:
            bits[plane] = fresh
            fresh *= 2
    return bits


def cross(first, second):
    """Return the cross product of two directions; what else stands behind them does not count."""
    return (
        first[1] * second[2] - first[2] * second[1],
        first[2] * second[0] - first[0] * second[2],
        first[0] * second[1] - first[1] * second[0],
    )
