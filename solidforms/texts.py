"""The texts of solids: writing and reading them."""

from solidforms.errors import InvalidText
from solidforms.solids import DEEPEST, PARTS, check_solid, is_solid

# No number of a solid has more digits.
MOST_DIGITS = 2


def format_solid(solid):
    """Return the text of a solid."""
    check_solid(solid)
    return _solid_text(solid)


def parse_solid(text):
    """Return the solid with this text; raise InvalidText if there is none."""
    if not isinstance(text, str):
        raise InvalidText("this is not a string")
    solid, _ = _read_solid(text, 0, 1)
    # Whatever was read too kindly, such as zeros ahead of a number or a rest
    # behind the solid, is not there in the text of the solid.
    if not is_solid(solid) or _solid_text(solid) != text:
        raise InvalidText("this is not the text of a solid")
    return solid


def _solid_text(solid):
    kinds = PARTS[solid[0]]
    parts = [_part_text(kind, part) for part, kind in zip(solid[1:], kinds)]
    if solid[0] == "half":
        return "half " + ",".join(parts)
    return solid[0] + " " + " ".join(parts)


def _part_text(kind, part):
    if kind == "solid":
        return "(" + _solid_text(part) + ")"
    if kind == "triple":
        return ",".join([str(number) for number in part])
    return str(part)


def _read_solid(text, at, depth):
    """Return the solid whose text begins at a place, and where it ends."""
    if depth > DEEPEST:
        raise InvalidText("too many brackets within one another")
    word = _read_word(text, at)
    at = _skip(text, at + len(word), " ")
    between = "," if word == "half" else " "
    parts = []
    for kind in PARTS[word]:
        if parts:
            at = _skip(text, at, between)
        part, at = _read_part(text, at, kind, depth)
        parts.append(part)
    return (word, *parts), at


def _read_part(text, at, kind, depth):
    if kind == "solid":
        solid, end = _read_solid(text, _skip(text, at, "("), depth + 1)
        return solid, _skip(text, end, ")")
    if kind == "triple":
        return _read_triple(text, at)
    return _read_number(text, at)


def _read_triple(text, at):
    x, at = _read_number(text, at)
    y, at = _read_number(text, _skip(text, at, ","))
    z, at = _read_number(text, _skip(text, at, ","))
    return (x, y, z), at


def _read_word(text, at):
    for word in PARTS:
        if text.startswith(word, at):
            return word
    raise InvalidText("no solid begins here")


def _read_number(text, at):
    first = at + 1 if text.startswith("-", at) else at
    end = first
    # Digits behind the last one that may stand here are left for _skip to meet.
    while end < len(text) and end < first + MOST_DIGITS and text[end] in "0123456789":
        end += 1
    if end == first:
        raise InvalidText("a number is missing")
    return int(text[at:end]), end


def _skip(text, at, sign):
    """Return the place behind a sign, which must stand at this place."""
    if not text.startswith(sign, at):
        raise InvalidText("another sign should stand here")
    return at + len(sign)
