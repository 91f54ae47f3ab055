"""Fractions, and points whose coordinates stand over one bottom.

A point here is a tuple of integers: the tops of its coordinates, and behind them the bottom of
all of them, which is greater than 0. So a fraction (top, bottom) is a point of a line.
"""

from math import gcd, lcm


def lowest(point):
    """Return a point in lowest terms; the bottom that is given may be below 0."""
    divisor = 0
    for number in point:
        divisor = gcd(divisor, number)
    if point[-1] < 0:
        divisor = -divisor
    return tuple([number // divisor for number in point])


def ascending(points):
    """Return the list of these points, sorted by their coordinates, without duplicates."""
    bottom = 1
    for point in points:
        bottom = lcm(bottom, point[-1])
    # Over one bottom, points are sorted as their tops are.
    scaled = sorted({tuple([number * (bottom // point[-1]) for number in point]) for point in points})
    return [lowest(point) for point in scaled]


def over_one_bottom(fractions):
    """Return the point with these coordinates."""
    bottom = 1
    for fraction in fractions:
        bottom = lcm(bottom, fraction[1])
    tops = [fraction[0] * (bottom // fraction[1]) for fraction in fractions]
    return (*tops, bottom)


def fractions_of(point):
    """Return the tuple of the coordinates of a point, as fractions."""
    return tuple([lowest((top, point[-1])) for top in point[:-1]])


def plus(first, second):
    """Return the sum of two fractions."""
    return lowest((first[0] * second[1] + second[0] * first[1], first[1] * second[1]))


def minus(first, second):
    """Return the first fraction less the second one."""
    return plus(first, (-second[0], second[1]))


def times(first, second):
    """Return the product of two fractions."""
    return lowest((first[0] * second[0], first[1] * second[1]))


def is_less(first, second):
    """Return whether the first fraction is less than the second one."""
    return first[0] * second[1] < second[0] * first[1]


def middles(places):
    """Return one fraction of each stretch between ascending places, those without an end too."""
    if not places:
        return [(0, 1)]
    between = [times(plus(low, high), (1, 2)) for low, high in zip(places, places[1:])]
    return [minus(places[0], (1, 1)), *between, plus(places[-1], (1, 1))]
