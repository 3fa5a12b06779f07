"""Images stripped of their notes, and the charts that keep these apart."""

from byteround.bytesrows import bytes_of, number_of, sum_of
from byteround.errors import NoBytes, NoImage, OtherImage
from byteround.fieldreader import FieldReader
from byteround.fieldwriter import WIDEST, FieldWriter, joined, named_once, with_sum
from byteround.imagebytes import image_bytes, note_bytes, note_names, read_note
from byteround.imagerules import is_note
from byteround.images import Image
from byteround.kinds import alike, copied, is_listed
from byteround.stretchrules import GREATEST_SIZE

SIGN = 88


class Chart:
    """The notes of an image, kept apart from it, and the sum by which it is known."""

    def __init__(self, total, notes):
        self.total = copied(total)
        self.notes = tuple(copied(notes)) if is_listed(notes) else copied(notes)

    def __eq__(self, other):
        return isinstance(other, Chart) and alike(self.total, other.total) and alike(self.notes, other.notes)


def stripped(image):
    """The image without notes, and the chart of them."""
    bare = with_these_notes(image, None)
    return (bare, Chart(total_of(bare), image.notes))


def with_notes(image, chart):
    """The image with the chart's notes, or OtherImage."""
    if not alike(chart.total, total_of(with_these_notes(image, None))):
        raise OtherImage(chart.total)
    try:
        return with_these_notes(image, chart.notes)
    except NoImage:
        raise OtherImage(chart.total)


def with_these_notes(image, notes):
    """The same image but for its notes, or NoImage."""
    return Image(image.data, image.stretches, image.holds, image.entry, notes=notes)


def total_of(bare):
    """The sum by which a chart knows an image without notes."""
    return sum_of(image_bytes(bare, edition=WIDEST))


def chart_bytes(chart):
    """The chart's bytes."""
    head = (SIGN, 0 if chart.notes is None else 1) + bytes_of(chart.total)
    if chart.notes is None:
        return with_sum(head)
    table = named_once(note_names(chart.notes))
    writer = FieldWriter(WIDEST, table)
    notes = writer.listed([note_bytes(note, writer) for note in chart.notes])
    return with_sum(joined([head, writer.table_field(), notes]))


def read_chart(thing):
    """The chart of a row of bytes, or NoBytes."""
    reader = FieldReader(thing)
    reader.byte_field((SIGN,))
    has_notes = reader.byte_field((0, 1)) == 1
    total = number_of(reader.bytes_field(2))
    notes = None
    if has_notes:
        reader.read_table()
        notes = [read_note(reader) for _ in range(reader.number_field())]
    reader.read_end()
    if notes is not None and not may_be_notes(notes):
        raise NoBytes(len(reader.row))
    return Chart(total, notes)


def may_be_notes(notes):
    """Whether some image has these notes: one has any number of stretches, of the greatest size and code alone."""
    places = {at: True for at in range(GREATEST_SIZE)}
    return len(notes) > 0 and all([is_note(note, places) for note in notes])
