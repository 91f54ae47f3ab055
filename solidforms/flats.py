"""Planes seen by themselves: how other planes cut them.

The points of a plane are told by their kept coordinates (u, v). Another plane leaves a trace
(p, q, r) in it: p * u + q * v + r is greater than 0 just on the greater side of that plane, and
0 on it. Where p and q are not both 0, the trace is that of a line.
"""

from math import gcd

from solidforms.ratios import ascending, ratio

# The coordinates that are kept in a plane, by the one that is left out.
KEPT_AXES = ((1, 2), (0, 2), (0, 1))


def left_out(plane):
    """Return the number of the coordinate that is left out in a plane."""
    if plane[2] != 0:
        return 2
    return 1 if plane[1] != 0 else 0


def kept_axes(plane):
    """Return the numbers of the two coordinates that are kept in a plane."""
    return KEPT_AXES[left_out(plane)]


def traces_in(plane, planes):
    """Return the list of the traces that planes leave in a plane; its own one is (0, 0, 0)."""
    out = left_out(plane)
    first, second = kept_axes(plane)
    # The factor that all is multiplied by, to put in what is left out, must not change signs.
    if plane[out] < 0:
        plane = tuple([-number for number in plane])
    scale = plane[out]
    return [
        (
            scale * other[first] - other[out] * plane[first],
            scale * other[second] - other[out] * plane[second],
            other[out] * plane[3] - scale * other[3],
        )
        for other in planes
    ]


def is_line(trace):
    """Return whether a trace is that of a line."""
    return trace[0] != 0 or trace[1] != 0


def line_form(trace):
    """Return the line of a trace in its one form."""
    divisor = gcd(trace[0], trace[1], trace[2])
    if trace[:2] < (0, 0):
        divisor = -divisor
    return (trace[0] // divisor, trace[1] // divisor, trace[2] // divisor)


def is_greater_to_the_left(plane, other):
    """Return whether the greater side of another plane is to the left of its line in a plane."""
    out = left_out(plane)
    first, second = KEPT_AXES[out]
    # The trace tells it; just the signs of p and q are needed.
    height = plane[out] * other[second] - other[out] * plane[second]
    if height == 0:
        height = other[out] * plane[first] - plane[out] * other[first]
    return height > 0 if plane[out] > 0 else height < 0


def far_sides(plane, bits):
    """Return the sides of the points of a plane far to the left and there far below."""
    traces = traces_in(plane, bits)
    return sum([bit for bit, (p, q, r) in zip(bits.values(), traces) if (-q, -p, r) > (0, 0, 0)])


def sides_round(plane, bits, point):
    """Return the list of the sides of all pieces of a plane that meet in a point of it."""
    u, v, bottom = point
    traces = traces_in(plane, bits)
    ways = []
    for p, q, r in traces:
        if is_line((p, q, r)) and p * u + q * v + r * bottom == 0:
            for along in ((q, -p), (-q, p)):
                ways.extend([(along, (p, q)), (along, (-p, -q))])
    if not ways:
        return [_sides_from(traces, bits, point, ())]
    return [_sides_from(traces, bits, point, pair) for pair in ways]


def first_places(traces):
    """Return the ascending list of the u of lines with one u, and of points where lines cross."""
    lines = sorted({line_form(trace) for trace in traces if is_line(trace)})
    found = [ratio(-r, p) for p, q, r in lines if q == 0]
    for place, (p, q, r) in enumerate(lines):
        found.extend([ratio(q * c - r * b, p * b - q * a) for a, b, c in lines[:place] if p * b != q * a])
    return ascending(found)


def _sides_from(traces, bits, point, ways):
    """Return the sides of a point; where it lies on planes, those of a point that is a tiny step
    away by the first one of the ways, a tinier one by the second, and so on."""
    u, v, bottom = point
    found = 0
    for bit, (p, q, r) in zip(bits.values(), traces):
        height = p * u + q * v + r * bottom
        if height == 0:
            height = _height_by_ways(p, q, ways)
        if height > 0:
            found += bit
    return found


def _height_by_ways(p, q, ways):
    for way in ways:
        height = p * way[0] + q * way[1]
        if height != 0:
            return height
    return 0
