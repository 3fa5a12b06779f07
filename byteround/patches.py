"""Patches: what is changed in rows of bytes, undone, put together with other changes."""

from byteround.errors import Clash, Misfit, NoPatch
from byteround.kinds import copied, is_listed, is_whole, many_alike
from byteround.patchchain import RowBetween
from byteround.patchspots import first_clash, growth_of, place_behind, spot_fault, spots_together


class Patch:
    """What is changed in rows of one length: spots (at, old, new)."""

    def __init__(self, length, spots=()):
        if not is_whole(length) or length < 0 or not is_listed(spots):
            raise NoPatch(None)
        fault = spot_fault(length, spots)
        if fault is not None:
            raise NoPatch(fault)
        self.length = copied(length)
        self.spots = tuple(copied(spots))

    def __eq__(self, other):
        return isinstance(other, Patch) and self.length == other.length and self.spots == other.spots

    def __len__(self):
        return len(self.spots)


def fitted(patch, row):
    """The row with all new bytes in their places, or Misfit."""
    fault = misfit_place(patch, row)
    if fault is not None:
        raise Misfit(fault)
    whole = []
    end = 0
    for at, old, new in patch.spots:
        whole.extend(row[end:at])
        whole.extend(new)
        end = at + len(old)
    whole.extend(row[end:])
    return tuple(copied(whole))


def misfit_place(patch, row):
    """The place of the first byte of the row that isn't as told, None where the patch fits."""
    for at, old, _ in patch.spots:
        for place, byte in enumerate(old, start=at):
            if place < len(row) and row[place] != byte:
                return place
    return None if len(row) == patch.length else min(len(row), patch.length)


def patch_between(one, other):
    """The patch that makes the other row of the one."""
    begin = many_alike(one, other)
    end = many_alike(one[begin:][::-1], other[begin:][::-1])
    old, new = one[begin:len(one) - end], other[begin:len(other) - end]
    if len(old) == len(new):
        unlike = [(begin + k, old[k:k + 1], new[k:k + 1]) for k in range(len(old)) if old[k] != new[k]]
        return Patch(len(one), spots_together(unlike))
    return Patch(len(one), [(begin, old, new)])


def length_behind(patch):
    """The length of the rows that the patch makes."""
    return patch.length + growth_of(patch.spots)


def turned_back(patch):
    """The patch that leads back."""
    spots = [
        (at + growth_of(patch.spots[:number]), new, old)
        for number, (at, old, new) in enumerate(patch.spots)]
    return Patch(length_behind(patch), spots)


def chained(one, other):
    """The patch that makes what both make, one behind the other; or Misfit, at a place of the row between."""
    between = RowBetween(one.spots, other.spots)
    unlike = between.unlike_place()
    if unlike is not None:
        raise Misfit(unlike)
    length = length_behind(one)
    if length != other.length:
        raise Misfit(min(length, other.length))
    spots = [between.spot_of(begin, end) for begin, end in between.spans()]
    return Patch(one.length, [(at, old, new) for at, old, new in spots if len(old) + len(new) > 0])


def merged(one, other):
    """The patch with the spots of both, or Misfit, or Clash."""
    need_no_clash(one, other)
    added = [spot for spot in other.spots if spot not in one.spots]
    # Bytes put in where another spot begins come ahead of it, as no bytes are sorted ahead of some.
    return Patch(one.length, spots_together(sorted(list(one.spots) + added)))


def shifted(patch, over):
    """The patch for the row behind over, or Misfit, or Clash."""
    need_no_clash(patch, over)
    spots = [
        (place_behind(over.spots, at), old, new)
        for at, old, new in patch.spots if (at, old, new) not in over.spots]
    return Patch(length_behind(over), spots_together(spots))


def need_no_clash(one, other):
    """Refuses with Misfit patches of unlike lengths, with Clash those of which spots clash."""
    if one.length != other.length:
        raise Misfit(min(one.length, other.length))
    clash = first_clash(one.spots, other.spots)
    if clash is not None:
        raise Clash(clash)
