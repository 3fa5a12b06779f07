"""Shelves of units: as bytes, and what is taken from them."""

from byteround.bytesrows import long_of
from byteround.errors import NoBytes, Twice
from byteround.fieldreader import FieldReader
from byteround.fieldwriter import FieldWriter, named_once, spelled, with_sum
from byteround.kinds import LONGEST_NAME, alike
from byteround.taking import Taking
from byteround.things import Unit
from byteround.unitbytes import least_edition, read_edition, unit_bytes

SIGN = 87


def shelf_bytes(units):
    """The shelf's bytes: its units', and the names that they have told."""
    writer = FieldWriter(3, ())
    rows = [unit_bytes(unit) for unit in units]
    listed = writer.listed([long_of(len(row)) + row for row in rows])
    told = writer.listed([spelled(name) + long_of(number) for name, number in told_names(units)])
    return with_sum((SIGN,) + listed + told)


def told_names(units):
    """The names that the units have told, each with its unit's number, rising."""
    told = [(name, number) for number, unit in enumerate(units) for part in unit.parts for name in part.told]
    return named_once(told)


def read_shelf(thing):
    """The shelf's list of units, or NoBytes."""
    reader = FieldReader(thing)
    reader.byte_field((SIGN,))
    units = [unit_field(reader) for _ in range(reader.number_field())]
    due = told_names(units)
    need_number(reader, len(due))
    for name, number in due:
        begin = reader.at
        if reader.spelled_field(LONGEST_NAME) != name:
            raise NoBytes(begin)
        need_number(reader, number)
    reader.read_end()
    return units


def unit_field(reader):
    """The next unit, in the least edition that bears it, ahead of which stands how many bytes it has."""
    many = reader.number_field()
    begin = reader.at
    row = reader.bytes_field(many)
    try:
        unit, edition = read_edition(row)
    except NoBytes as refusal:
        raise NoBytes(begin + refusal.at)
    if edition != least_edition(unit):
        raise NoBytes(begin)
    return unit


def need_number(reader, due):
    """Refuses with NoBytes another number than is due next."""
    begin = reader.at
    if reader.number_field() != due:
        raise NoBytes(begin)


def taken(units, entry, *, shelves, keep=()):
    """What is taken for the units, in turn: (shelf, number, name, part); or Twice."""
    return Taking(units, entry, shelves, keep).taken


def is_taken(units, entry, thing, *, shelves, keep=()):
    """Whether the thing is just what is taken for the units."""
    try:
        due = taken(units, entry, shelves=shelves, keep=keep)
    except Twice:
        return False
    return alike(thing, due)


def laid(units, entry, *, shelves=(), keep=()):
    """The unit of all parts, those taken too, or Twice."""
    return Unit(Taking(units, entry, shelves, keep).parts)
