"""The borders in the pictures of planes."""

from solidforms.flats import kept_axes, line_form


def borders_on(plane, line, lefts, rights):
    """Return the list of the borders on a line in a plane, by what stands to the left and to the
    right of its stretches."""
    runs = runs_of(lefts, rights)
    if not runs:
        return []
    first, second = kept_axes(plane)
    ends = [None, *line.marks, None]
    form = _form_of(line, first, second)
    # Borders are told as somebody meets them who goes to greater u, or, where u stays, to greater v.
    goes_on = (line.way[first], line.way[second]) > (0, 0)
    borders = []
    for begin, end, left, right in runs:
        start, stop = (ends[begin], ends[end]) if goes_on else (ends[end], ends[begin])
        borders.append((form, _told(line, start, first, second), _told(line, stop, first, second), left, right))
    return borders if goes_on else borders[::-1]


def picture_of(base, borders):
    """Return the picture with this base and these borders, which ascend on each line."""
    return (base, tuple(sorted(borders, key=lambda border: border[0])))


def runs_of(lefts, rights):
    """Return the list of the longest runs of stretches with one left and one right that are unlike
    each other, as tuples (place of the first stretch, place behind the last one, left, right)."""
    runs = []
    for place, (left, right) in enumerate(zip(lefts, rights)):
        if left == right:
            continue
        begin = place
        if runs and runs[-1][1:] == (place, left, right):
            begin = runs.pop()[0]
        runs.append((begin, place + 1, left, right))
    return runs


def _form_of(line, first, second):
    """Return a line of space as it is told by two coordinates."""
    p, q = line.way[second], -line.way[first]
    bottom = line.spot[3]
    return line_form((p * bottom, q * bottom, -p * line.spot[first] - q * line.spot[second]))


def _told(line, mark, first, second):
    """Return two coordinates of the point at a mark of a line, None if there is no mark."""
    if mark is None:
        return None
    point = line.coordinates(mark)
    return (point[first], point[second])
