"""Units as bytes, in three editions."""

from byteround.errors import NoBytes, NoEdition, NoUnit
from byteround.fieldreader import FieldReader
from byteround.fieldwriter import FieldWriter, joined, named_once
from byteround.stretchrules import KINDS, STEPS
from byteround.things import Part, Stretch, Unit
from byteround.unitlosses import NO_LINES, lost_words, lowered_parts, part_names, unit_fault

SIGN = 85
FORMS = ("near", "full")


def unit_bytes(unit, *, edition=None):
    """The unit's bytes in an edition, the least that bears it where none is told, or NoEdition."""
    written = least_edition(unit) if edition is None else edition
    fault = unit_fault(unit, written)
    if fault is not None:
        raise NoEdition(written, fault)
    names = [name for part in unit.parts for name in part_names(part)]
    writer = FieldWriter(written, named_once(names))
    parts = [part_bytes(part, writer) for part in unit.parts]
    return writer.whole(writer.opening(SIGN) + (writer.listed(parts) if written == 3 else parts[0]))


def least_edition(unit):
    """The least edition that bears the unit."""
    return min([edition for edition in (1, 2, 3) if unit_fault(unit, edition) is None])


def lowered(unit, edition):
    """The unit with steps and rows as the edition bears them, and the words of what is lost, or NoEdition."""
    low = unit if edition > 1 else Unit(lowered_parts(unit))
    fault = unit_fault(low, edition)
    if fault is not None:
        raise NoEdition(edition, fault)
    return (low, lost_words(unit) if edition == 1 else ())


def moved(thing, edition):
    """A unit's bytes in an edition, or NoBytes, or NoEdition."""
    return unit_bytes(read_unit(thing), edition=edition)


def read_unit(thing):
    """The unit of a row of bytes, or NoBytes."""
    unit, _ = read_edition(thing)
    return unit


def edition_of(thing):
    """The edition of a unit's row of bytes, or NoBytes."""
    _, edition = read_edition(thing)
    return edition


def part_bytes(part, writer):
    stretches = [stretch_bytes(stretch, writer) for stretch in part.stretches]
    fields = [writer.name_field(part.name), writer.listed(stretches), writer.named(part.told)]
    if writer.edition > 1:
        fields.extend([writer.named(part.weak), writer.named(part.soft)])
    return joined(fields)


def stretch_bytes(stretch, writer):
    fields = [writer.name_field(stretch.name), (KINDS.index(stretch.kind),)]
    if writer.edition > 1:
        fields.append((stretch.step,))
    fields.extend([writer.number_field(stretch.size), stretch.data])
    fields.append(writer.listed([hold_bytes(hold, writer) for hold in stretch.holds]))
    fields.append(writer.labelled(stretch.labels))
    if writer.edition > 1:
        fields.append(writer.lined(stretch.lines))
    return joined(fields)


def hold_bytes(hold, writer):
    offset, form, name, plus = hold
    at = writer.number_field(offset)
    return at + (FORMS.index(form),) + writer.name_field(name) + writer.number_field(plus)


def read_edition(thing):
    """The unit of a row of bytes and its edition, or NoBytes."""
    reader = FieldReader(thing)
    reader.read_head(SIGN)
    parts = read_parts(reader)
    reader.read_end()
    return (Unit([part_read(begin, fields) for begin, fields in parts]), reader.edition)


def read_parts(reader):
    """For each part where its name is, and its fields."""
    if reader.edition < 3:
        return [read_part(reader)]
    begin = reader.at
    many = reader.number_field()
    if many == 0:
        raise NoBytes(begin)
    return [read_part(reader) for _ in range(many)]


def read_part(reader):
    begin = reader.at
    name = reader.name_field()
    stretches = [read_stretch(reader) for _ in range(reader.number_field())]
    told = reader.named()
    weak, soft = [], []
    if reader.edition > 1:
        weak = reader.named()
        soft = reader.named()
    return (begin, (name, stretches, told, weak, soft))


def read_stretch(reader):
    name = reader.name_field()
    kind = KINDS[reader.byte_field((0, 1, 2))]
    step = reader.byte_field(STEPS) if reader.edition > 1 else 1
    size = reader.size_field()
    data = () if kind == "room" else reader.bytes_field(size)
    holds = [read_hold(reader) for _ in range(reader.number_field())]
    labels = reader.labelled()
    lines = reader.lined() if reader.edition > 1 else NO_LINES
    return (name, kind, step, size, data, holds, labels, lines)


def read_hold(reader):
    offset = reader.number_field()
    form = FORMS[reader.byte_field((0, 1))]
    name = reader.name_field()
    return (offset, form, name, reader.number_field())


def part_read(begin, fields):
    """The part of these fields, or NoBytes where it began."""
    name, stretches, told, weak, soft = fields
    try:
        return Part(name, stretches=[stretch_read(read) for read in stretches], told=told, weak=weak, soft=soft)
    except NoUnit:
        raise NoBytes(begin)


def stretch_read(fields):
    """The stretch of these fields, or NoUnit."""
    name, kind, step, size, data, holds, labels, lines = fields
    return Stretch(name, kind=kind, step=step, data=data, size=size, labels=labels, holds=holds, lines=lines)
