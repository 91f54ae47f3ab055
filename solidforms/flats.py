"""Planes seen by themselves: how other planes cut them, and their pictures.

The points of a plane are told by their kept coordinates (u, v). Another plane leaves a trace
(p, q, r) in it: p * u + q * v + r is greater than 0 just on the greater side of that plane, and
0 on it. Where p and q are not both 0, the trace is that of a line.
"""

from math import gcd

from solidforms.ratios import ascending, fractions_of, lowest


def left_out(plane):
    """Return the number of the coordinate that is left out in a plane."""
    if plane[2] != 0:
        return 2
    return 1 if plane[1] != 0 else 0


def kept_axes(plane):
    """Return the numbers of the two coordinates that are kept in a plane."""
    out = left_out(plane)
    return [axis for axis in range(3) if axis != out]


def traces_in(plane, planes):
    """Return the list of the traces that planes leave in a plane; its own one is (0, 0, 0)."""
    out = left_out(plane)
    first, second = kept_axes(plane)
    # The factor that all is multiplied by, to put in what is left out, must not change signs.
    if plane[out] < 0:
        plane = tuple([-number for number in plane])
    scale = plane[out]
    return [
        (
            scale * other[first] - other[out] * plane[first],
            scale * other[second] - other[out] * plane[second],
            other[out] * plane[3] - scale * other[3],
        )
        for other in planes
    ]


def is_line(trace):
    """Return whether a trace is that of a line."""
    return trace[0] != 0 or trace[1] != 0


def sides_from(traces, point, ways):
    """Return the sides of a point; where it lies on planes, those of a point that is a tiny step
    away by the first one of the ways, a tinier one by the second, and so on."""
    u, v, bottom = point
    found = 0
    for place, (p, q, r) in enumerate(traces):
        height = p * u + q * v + r * bottom
        if height == 0:
            height = _height_by_ways(p, q, ways)
        if height > 0:
            found += 1 << place
    return found


def far_sides(traces):
    """Return the sides of the points far to the left and there far below."""
    found = 0
    for place, (p, q, r) in enumerate(traces):
        if (-q, -p, r) > (0, 0, 0):
            found += 1 << place
    return found


def sides_round(traces, point):
    """Return the list of the sides of all pieces of the plane that meet in a point."""
    u, v, bottom = point
    ways = []
    for p, q, r in traces:
        if is_line((p, q, r)) and p * u + q * v + r * bottom == 0:
            for along in ((q, -p), (-q, p)):
                ways.extend([(along, (p, q)), (along, (-p, -q))])
    if not ways:
        return [sides_from(traces, point, ())]
    return [sides_from(traces, point, pair) for pair in ways]


def first_places(traces):
    """Return the ascending list of the u of lines with one u, and of points where lines cross."""
    lines = _lines_of(traces)
    found = [lowest((-r, p)) for p, q, r in lines if q == 0]
    for place, line in enumerate(lines):
        found.extend([(u, bottom) for u, _, bottom in _crossings(line, lines[:place])])
    return ascending(found)


def edges_of(traces):
    """Return the stretches into which the lines cut each other, as tuples (line, start, end, left,
    right) with the sides of the points to the left and to the right of it, by lines and starts."""
    lines = _lines_of(traces)
    found = []
    for line in lines:
        found.extend(_edges_on(line, lines, traces))
    return found


def picture_of(traces, kind_of):
    """Return the picture in which points have the kinds that a function finds by their sides."""
    borders = []
    for line, start, end, left, right in edges_of(traces):
        border = (line, start, end, kind_of(left), kind_of(right))
        if border[3] == border[4]:
            continue
        if borders and _goes_on(borders[-1], border):
            border = (line, borders.pop()[1], *border[2:])
        borders.append(border)
    told = [(line, _told(start), _told(end), left, right) for line, start, end, left, right in borders]
    return (kind_of(far_sides(traces)), tuple(told))


def _goes_on(border, later):
    """Return whether a border goes on in one that comes behind it."""
    return border[0] == later[0] and border[2] == later[1] and border[3:] == later[3:]


def _told(point):
    return None if point is None else fractions_of(point)


def _height_by_ways(p, q, ways):
    for way in ways:
        height = p * way[0] + q * way[1]
        if height != 0:
            return height
    return 0


def _lines_of(traces):
    """Return the ascending list of the lines of traces, each in its one form."""
    return sorted({_line_of(trace) for trace in traces if is_line(trace)})


def _line_of(trace):
    divisor = gcd(trace[0], trace[1], trace[2])
    if trace[:2] < (0, 0):
        divisor = -divisor
    return tuple([number // divisor for number in trace])


def _crossings(line, others):
    """Return the list of the points where a line crosses others."""
    p, q, r = line
    return [lowest((q * c - r * b, r * a - p * c, p * b - q * a)) for a, b, c in others if p * b != q * a]


def _point_of(line):
    """Return some point of a line."""
    p, q, r = line
    return lowest((0, -r, q)) if q != 0 else lowest((-r, 0, p))


def _edges_on(line, lines, traces):
    p, q, _ = line
    left = (p, q) if q > 0 else (-p, -q)
    right = (-left[0], -left[1])
    onward = (left[1], -left[0])
    back = (-left[1], left[0])
    corners = ascending(_crossings(line, lines))
    # Each stretch is looked at from its start, but the first one, which has none, from its end.
    first = corners[0] if corners else _point_of(line)
    marks = [(first, back)] + [(corner, onward) for corner in corners]
    ends = [None, *corners, None]
    edges = []
    for place, (point, way) in enumerate(marks):
        sides = [sides_from(traces, point, (way, aside)) for aside in (left, right)]
        edges.append((line, ends[place], ends[place + 1], *sides))
    return edges
