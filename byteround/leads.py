"""To which rows of texts the bytes of an image lead, and which bytes a row has."""

from byteround.errors import NoPlace
from byteround.kinds import is_between
from byteround.layout import place_at, stretch_at


def leads(image, at):
    """(part, stretch's name, offset, row) of the spot, None of a fill and without notes; or NoPlace."""
    if not is_between(at, 0, len(image) - 1):
        raise NoPlace(at)
    if image.notes is None or stretch_at(image.stretches, at) is None:
        return None
    number, offset = place_at(image.stretches, at)
    part, _, name, _, lines = image.notes[number]
    return (part, name, offset, row_at(lines, offset))


def row_at(lines, offset):
    """The row of the last line up to the offset."""
    return [row for begin, row in lines if begin <= offset][-1]


def bytes_of_row(image, part, row):
    """Where the bytes are that lead to the row of the part of this number: (from, to), rising."""
    spans = []
    for (begin, size, _, _), (number, _, _, _, lines) in noted_stretches(image):
        ends = [offset for offset, _ in lines[1:]] + [size]
        spans.extend([
            (begin + offset, begin + end) for (offset, told), end in zip(lines, ends)
            if number == part and told == row])
    return spans


def noted_stretches(image):
    """The image's stretches, each with its note; none without notes."""
    return [] if image.notes is None else list(zip(image.stretches, image.notes))


def traced(unit, image, part, row):
    """("bytes", list) where the row's bytes are, ("left", names) of stretches that are left out, or ("none",)."""
    spans = bytes_of_row(image, part, row)
    if len(spans) > 0:
        return ("bytes", spans)
    stretches = unit.parts[part].stretches if part in range(len(unit.parts)) else ()
    left = [stretch.name for stretch in stretches if row in [told for _, told in stretch.lines]]
    return ("left", sorted(left)) if len(left) > 0 else ("none",)
