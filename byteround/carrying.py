"""Patches of images: done to one, carried over to one laid out elsewhere."""

from byteround.errors import OtherProgram, Uncarried
from byteround.images import Image
from byteround.layout import place_at, stretch_at
from byteround.matching import same_program
from byteround.patches import Patch, fitted
from byteround.patchspots import spots_together


def patched(image, patch):
    """The image with its data patched, or Misfit, or NoImage."""
    return Image(fitted(patch, image.data), image.stretches, image.holds, image.entry, notes=image.notes)


def carried(patch, image, other):
    """The patch that does the same to the other image's data, or Misfit, OtherProgram, Uncarried."""
    # Only whether it fits is asked.
    fitted(patch, image.data)
    told = same_program(image, other)
    if told[0] == "apart":
        raise OtherProgram(told[1])
    pairs = {number: other_number for number, other_number in told[1]}
    carriage = Carriage(image, other, pairs)
    spots = [part for spot in patch.spots for part in carriage.parts_of_spot(spot)]
    return Patch(len(other.data), spots_together(sorted(spots)))


class Carriage:
    """Two images whose stretches match, by numbers, and the first one's held bytes."""

    def __init__(self, image, other, pairs):
        self.stretches = image.stretches
        self.other_stretches = other.stretches
        self.pairs = pairs
        self.held_bytes = {at + k: True for at, _ in image.holds for k in (0, 1)}

    def parts_of_spot(self, spot):
        """The spot byte by byte as the other image has it, or Uncarried."""
        at, old, new = spot
        if len(old) != len(new) or not all([self.may_carry(at + k) for k in range(len(old))]):
            raise Uncarried(at)
        return [(self.spot_there(at + k), old[k:k + 1], new[k:k + 1]) for k in range(len(old))]

    def may_carry(self, at):
        """Whether the byte is one of a matched stretch, and not held."""
        return at not in self.held_bytes and stretch_at(self.stretches, at) in self.pairs

    def spot_there(self, at):
        """The spot of this byte in the other image."""
        number, offset = place_at(self.stretches, at)
        begin, _, _, _ = self.other_stretches[self.pairs[number]]
        return begin + offset
