"""The borders in the pictures of planes."""

from solidforms.flats import kept_axes, line_form


def borders_on(plane, line, lefts, rights):
    """Return the list of the borders on a line in a plane, by what stands to the left and to the
    right of its stretches."""
    runs = [run for run in runs_of(list(zip(lefts, rights))) if run[2][0] != run[2][1]]
    if not runs:
        return []
    first, second = kept_axes(plane)
    ends = [None, *line.marks, None]
    form = _form_of(line, first, second)
    # Borders are told as somebody meets them who goes to greater u, or, where u stays, to greater v.
    goes_on = (line.way[first], line.way[second]) > (0, 0)
    borders = []
    for begin, end, (left, right) in runs if goes_on else runs[::-1]:
        marks = (ends[begin], ends[end]) if goes_on else (ends[end], ends[begin])
        points = [_told(line, mark, first, second) for mark in marks]
        borders.append((form, *points, left, right))
    return borders


def picture_of(base, borders):
    """Return the picture with this base and these borders, which ascend on each line."""
    return (base, tuple(sorted(borders, key=lambda border: border[0])))


def runs_of(values):
    """Return the list of the longest runs of equal values, as triples (place of the first one,
    place behind the last one, value)."""
    begins = [place for place, value in enumerate(values) if place == 0 or value != values[place - 1]]
    ends = [*begins[1:], len(values)]
    return [(begin, end, values[begin]) for begin, end in zip(begins, ends)]


def _form_of(line, first, second):
    """Return a line of space as it is told by two coordinates."""
    p, q = line.way[second], -line.way[first]
    bottom = line.spot[3]
    return line_form((p * bottom, q * bottom, -p * line.spot[first] - q * line.spot[second]))


def _told(line, mark, first, second):
    """Return two coordinates of the point at a mark of a line, None if there is no mark."""
    if mark is None:
        return None
    return (line.coordinate(first, mark), line.coordinate(second, mark))
