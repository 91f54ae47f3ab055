"""Fractions, and points whose coordinates stand over one bottom.

A point here is a tuple of integers: the tops of its coordinates, and behind them the bottom of
all of them, which is greater than 0.
"""

from math import gcd, lcm


def ratio(top, bottom):
    """Return a fraction in lowest terms; the bottom that is given may be below 0."""
    divisor = gcd(top, bottom)
    if bottom < 0:
        divisor = -divisor
    return (top // divisor, bottom // divisor)


def ascending(fractions):
    """Return the list of these fractions, sorted, without duplicates."""
    common = 1
    for _, bottom in fractions:
        common = lcm(common, bottom)
    # Over one bottom, fractions are sorted as their tops are.
    rows = sorted({(top * (common // bottom), top, bottom) for top, bottom in fractions})
    return [(top, bottom) for _, top, bottom in rows]


def over_one_bottom(fractions):
    """Return the point with these coordinates."""
    common = 1
    for _, bottom in fractions:
        common = lcm(common, bottom)
    tops = [top * (common // bottom) for top, bottom in fractions]
    return (*tops, common)


def plus(first, second):
    """Return the sum of two fractions."""
    return ratio(first[0] * second[1] + second[0] * first[1], first[1] * second[1])


def minus(first, second):
    """Return the first fraction less the second one."""
    return ratio(first[0] * second[1] - second[0] * first[1], first[1] * second[1])


def times(first, second):
    """Return the product of two fractions."""
    return ratio(first[0] * second[0], first[1] * second[1])


def is_less(first, second):
    """Return whether the first fraction is less than the second one."""
    return first[0] * second[1] < second[0] * first[1]


def middles(places):
    """Return one fraction of each stretch between ascending places, those without an end too."""
    if not places:
        return [(0, 1)]
    between = [times(plus(low, high), (1, 2)) for low, high in zip(places, places[1:])]
    return [minus(places[0], (1, 1)), *between, plus(places[-1], (1, 1))]
