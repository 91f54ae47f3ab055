"""Bodies as they are seen along the lines that their planes have in common."""

from solidforms.flats import far_sides
from solidforms.lines import lines_of, rooms_between, sides_about


class Outline:
    """The rooms into which planes cut a body, and the lines along which these meet.

    `rooms` leads the sides of each room to whether it lies inside; `endless` has the sides of those
    that go on for ever. `lines` lists all lines that the planes have in common, and `edges` those
    of them along which not all is alike, in pairs with a dict of the rooms that meet there: it
    leads their sides of the planes that the line lies in to a list of whether they lie inside, at
    each stretch.
    """

    def __init__(self, body):
        self.bits = body.bits
        self.rooms = {}
        self.endless = {}
        self.lines = lines_of(body.bits)
        self.edges = []
        for line in self.lines:
            self._look_along(line, body)
        if not self.lines:
            self.rooms = {sides: body.holds(sides) for sides in rooms_between(body.bits)}
            self.endless = {sides: True for sides in self.rooms}

    def _look_along(self, line, body):
        table = {about: self._row_of(about, line.stretches, body) for about in sides_about(line, self.bits)}
        rows = list(table.values())
        if any([row != rows[0] for row in rows]):
            self.edges.append((line, table))
        for about in table:
            # A room that goes on for ever has an edge that does so, too.
            self.endless[about + line.stretches[0]] = True
            self.endless[about + line.stretches[-1]] = True

    def _row_of(self, about, stretches, body):
        """Return the list of whether the rooms on one side of a line lie inside."""
        row = []
        for sides in stretches:
            room = about + sides
            if room not in self.rooms:
                self.rooms[room] = body.holds(room)
            row.append(self.rooms[room])
        return row


def is_closed(outline):
    """Return whether nothing inside goes on for ever."""
    return not any([outline.rooms[sides] for sides in outline.endless])


def planes_with_faces(outline):
    """Return the list of all planes that have faces."""
    bits = outline.bits
    if not outline.lines:
        far = {plane: far_sides(plane, bits) for plane in bits}
        return [plane for plane in bits if outline.rooms[far[plane]] != outline.rooms[far[plane] + bits[plane]]]
    found = {}
    for line, table in outline.edges:
        for plane in line.through:
            if plane not in found and _has_face_at(table, bits[plane]):
                found[plane] = True
    return list(found)


def mixed_stretches(table):
    """Return the places of the stretches of an edge about which not all is alike."""
    rows = list(table.values())
    return [place for place, held in enumerate(zip(*rows)) if any(held) != all(held)]


def _has_face_at(table, bit):
    """Return whether a face of the plane with this bit meets an edge."""
    return any([
        (about & bit) == 0 and about + bit in table and table[about] != table[about + bit] for about in table
    ])
