"""What of a unit an edition can't bear, and what it loses where it is lowered."""

from byteround.fieldwriter import SHORT_NAME
from byteround.things import Part, Stretch

NO_LINES = ((0, 0),)
SMALL_NUMBER = 255


def unit_fault(unit, edition):
    """The first word of what the edition can't bear of the unit, None where it bears all."""
    if edition < 3 and len(unit.parts) > 1:
        return "parts"
    if edition > 1:
        return None
    # One part is left of which more is asked.
    part = unit.parts[0]
    if not all([len(name) <= SHORT_NAME for name in part_names(part)]):
        return "name"
    lost = lost_words(unit)
    if len(lost) > 0:
        return lost[0]
    if len(part.weak) > 0:
        return "weak"
    if len(part.soft) > 0:
        return "soft"
    return None if max(part_numbers(part)) <= SMALL_NUMBER else "number"


def lost_words(unit):
    """The words of what of the unit is lost in edition 1."""
    stretches = [stretch for part in unit.parts for stretch in part.stretches]
    words = []
    if any([stretch.step != 1 for stretch in stretches]):
        words.append("step")
    if any([stretch.lines != NO_LINES for stretch in stretches]):
        words.append("line")
    return tuple(words)


def lowered_parts(unit):
    """The unit's parts with steps 1 and rows 0."""
    return [
        Part(part.name, stretches=[lowered_stretch(stretch) for stretch in part.stretches], told=part.told,
             weak=part.weak, soft=part.soft)
        for part in unit.parts]


def lowered_stretch(stretch):
    return Stretch(
        stretch.name, kind=stretch.kind, data=stretch.data, size=stretch.size, labels=stretch.labels,
        holds=stretch.holds)


def part_names(part):
    """All names that the part has."""
    names = [part.name]
    for stretch in part.stretches:
        names.append(stretch.name)
        names.extend([hold[2] for hold in stretch.holds])
        names.extend([name for name, _ in stretch.labels])
    return names


def part_numbers(part):
    """All numbers that edition 1 writes of the part."""
    numbers = [len(part.stretches), len(part.told)]
    for stretch in part.stretches:
        numbers.extend([stretch.size, len(stretch.holds), len(stretch.labels)])
        numbers.extend([number for offset, _, _, plus in stretch.holds for number in (offset, plus)])
        numbers.extend([offset for _, offset in stretch.labels])
    return numbers
