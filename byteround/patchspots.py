"""Spots of patches, (at, old, new): which may stand, which clash, how they are put together."""

from byteround.bytesrows import is_row
from byteround.kinds import is_tuple_of, is_whole


def spot_fault(length, spots):
    """The number of the first spot that isn't as told of rows of this length, None where all are."""
    least = 0
    for number, spot in enumerate(spots):
        if not is_spot(spot) or spot[0] < least or end_of(spot) > length:
            return number
        # At least one byte is between two spots.
        least = end_of(spot) + 1
    return None


def is_spot(thing):
    """Whether the thing is a spot, wherever it begins."""
    if not is_tuple_of(thing, 3):
        return False
    at, old, new = thing
    return is_whole(at) and is_row(old) and is_row(new) and len(old) + len(new) > 0


def end_of(spot):
    """The place behind the spot's old bytes."""
    at, old, _ = spot
    return at + len(old)


def growth_of(spots):
    """How many bytes more there are behind the spots than ahead."""
    return sum([len(new) - len(old) for _, old, new in spots])


def place_behind(spots, at):
    """Where the byte of this place is behind the spots, none of which has it."""
    return at + growth_of([spot for spot in spots if end_of(spot) <= at])


def spots_together(spots):
    """The spots, rising, those that touch put into one."""
    whole = []
    for at, old, new in spots:
        if len(whole) > 0 and end_of(whole[-1]) == at:
            begin, old_ahead, new_ahead = whole.pop()
            whole.append((begin, old_ahead + old, new_ahead + new))
        else:
            whole.append((at, old, new))
    return whole


def first_clash(spots, others):
    """The greater begin of the first two that clash, a spot and one of the others; None where none do."""
    clashes = [sorted([mine[0], yours[0]]) for mine in spots for yours in others if do_clash(mine, yours)]
    if len(clashes) == 0:
        return None
    _, greater = min(clashes)
    return greater


def do_clash(mine, yours):
    """Whether two spots clash."""
    if mine == yours:
        return False
    if max(mine[0], yours[0]) < min(end_of(mine), end_of(yours)):
        return True
    if puts_in_within(mine, yours) or puts_in_within(yours, mine):
        return True
    return mine[0] == end_of(mine) == yours[0] == end_of(yours)


def puts_in_within(spot, other):
    """Whether the spot puts bytes in strictly within the other's old bytes."""
    at, old, _ = spot
    return len(old) == 0 and other[0] < at < end_of(other)
