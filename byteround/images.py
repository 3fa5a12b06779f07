"""Images, and their bytes put at a base."""

from byteround.bytesrows import bytes_of, is_row, number_of
from byteround.errors import NoBase, NoImage
from byteround.imagerules import image_fault
from byteround.kinds import copied
from byteround.layout import size_laid
from byteround.machine import LEAST_BASE, is_base


class Image:
    """Linked stretches: their bytes, what their fields lead to, where a run begins."""

    def __init__(self, data, stretches, holds, entry, *, notes=None):
        fault = image_fault(data, stretches, holds, entry, notes)
        if fault is not None:
            raise NoImage(fault)
        self.data = copied(data)
        self.stretches = tuple(copied(stretches))
        self.holds = tuple(copied(holds))
        self.entry = copied(entry)
        self.notes = None if notes is None else tuple(copied(notes))

    def __eq__(self, other):
        if not isinstance(other, Image) or self.data != other.data or self.stretches != other.stretches:
            return False
        return self.holds == other.holds and self.entry == other.entry and self.notes == other.notes

    def __len__(self):
        return len(range(size_laid(self.stretches)))


def placed(image, base):
    """The image's data put at the base, or NoBase."""
    if not is_base(base, len(image)):
        raise NoBase(base)
    row = list(image.data)
    for at, target in image.holds:
        if target is not None:
            row[at:at + 2] = bytes_of(target + base)
    return tuple(row)


def found_at(image, thing):
    """The base at which the thing is the image placed, or None."""
    if not is_row(thing):
        return None
    base = base_told(image, thing)
    if not is_base(base, len(image)) or placed(image, base) != thing:
        return None
    return base


def base_told(image, row):
    """The base that the row tells by the first field with a target; the least one where none has any."""
    for at, target in image.holds:
        if target is not None:
            return number_of(row[at:at + 2]) - target
    return LEAST_BASE
