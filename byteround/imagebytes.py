"""Images as bytes, in three editions."""

from byteround.errors import NoBytes, NoEdition, NoImage
from byteround.fieldreader import FieldReader
from byteround.fieldwriter import FieldWriter, joined, named_once
from byteround.images import Image
from byteround.stretchrules import KINDS, STEPS

SIGN = 86

# By the edition the greatest number that it can write.
GREATEST_NUMBERS = {1: 255, 2: 65535}


def image_bytes(image, *, edition=None):
    """The image's bytes in an edition, the least that bears it where none is told, or NoEdition."""
    written = least_image_edition(image) if edition is None else edition
    fault = edition_fault(image, written)
    if fault is not None:
        raise NoEdition(written, fault)
    writer = FieldWriter(written, named_once(note_names(image.notes)))
    fields = [
        writer.opening(SIGN), writer.number_field(len(image.data)), image.data,
        writer.listed([stretch_bytes(stretch, writer) for stretch in image.stretches]),
        writer.listed([hold_bytes(hold, writer) for hold in image.holds]), writer.number_field(image.entry)]
    if written == 3:
        fields.append(notes_bytes(image.notes, writer))
    return writer.whole(joined(fields))


def least_image_edition(image):
    """The least edition that bears the image."""
    return min([edition for edition in (1, 2, 3) if edition_fault(image, edition) is None])


def edition_fault(image, edition):
    """The first word of what the edition can't bear of the image, None where it bears all."""
    if edition == 3:
        return None
    if edition == 1 and any([kind == "room" for _, _, kind, _ in image.stretches]):
        return "room"
    if image.notes is not None:
        return "notes"
    return None if max(image_numbers(image)) <= GREATEST_NUMBERS[edition] else "number"


def image_numbers(image):
    """All numbers that editions 1 and 2 write of the image."""
    numbers = [len(image.data), len(image.stretches), len(image.holds), image.entry]
    numbers.extend([number for begin, size, _, _ in image.stretches for number in (begin, size)])
    numbers.extend([number for hold in image.holds for number in hold if number is not None])
    return numbers


def note_names(notes):
    """All names in the notes."""
    told = () if notes is None else notes
    names = []
    for _, part, stretch, labels, _ in told:
        names.extend([part, stretch])
        names.extend([name for name, _ in labels])
    return names


def stretch_bytes(stretch, writer):
    begin, size, kind, step = stretch
    return writer.number_field(begin) + writer.number_field(size) + (KINDS.index(kind), step)


def hold_bytes(hold, writer):
    at, target = hold
    if target is None:
        return writer.number_field(at) + (0,)
    return writer.number_field(at) + (1,) + writer.number_field(target)


def notes_bytes(notes, writer):
    """A byte 0 of no notes, or 1 and the notes."""
    if notes is None:
        return (0,)
    return (1,) + joined([note_bytes(note, writer) for note in notes])


def note_bytes(note, writer):
    number, part, stretch, labels, lines = note
    names = writer.name_field(part) + writer.name_field(stretch)
    return writer.number_field(number) + names + writer.labelled(labels) + writer.lined(lines)


def read_image(thing):
    """The image of a row of bytes, or NoBytes."""
    reader = FieldReader(thing)
    reader.read_head(SIGN)
    data = reader.bytes_field(reader.number_field())
    stretches = [read_stretch(reader) for _ in range(reader.number_field())]
    holds = [read_hold(reader) for _ in range(reader.number_field())]
    entry = reader.number_field()
    notes = read_notes(reader, len(stretches)) if reader.edition == 3 else None
    reader.read_end()
    try:
        return Image(data, stretches, holds, entry, notes=notes)
    except NoImage:
        raise NoBytes(len(reader.row))


def read_stretch(reader):
    begin = reader.number_field()
    size = reader.size_field()
    kind = KINDS[reader.byte_field((0, 1) if reader.edition == 1 else (0, 1, 2))]
    return (begin, size, kind, reader.byte_field(STEPS))


def read_hold(reader):
    at = reader.number_field()
    target = reader.number_field() if reader.byte_field((0, 1)) == 1 else None
    return (at, target)


def read_notes(reader, many):
    """So many notes, or None where a byte tells that there are none."""
    if reader.byte_field((0, 1)) == 0:
        return None
    return [read_note(reader) for _ in range(many)]


def read_note(reader):
    number = reader.number_field()
    part = reader.name_field()
    stretch = reader.name_field()
    labels = tuple(reader.labelled())
    return (number, part, stretch, labels, tuple(reader.lined()))
