"""Two patches, one behind the other: what both make of rows, by the row between."""

from byteround.patchspots import end_of, growth_of


class RowBetween:
    """The row between two patches, as far as both tell it.

    By the place there at which a spot of either begins: where it ends there, what it has in the row ahead of both
    (of the first patch) or behind both (of the other one). By its place each byte put in or wanted there.
    """

    def __init__(self, spots, others):
        self.came = {}
        self.put_in = {}
        self.goes = {}
        self.wanted = {}
        for number, (at, old, new) in enumerate(spots):
            begin = at + growth_of(spots[:number])
            self.came[begin] = (begin + len(new), old)
            self.put_in.update(by_place(begin, new))
        for at, old, new in others:
            self.goes[at] = (end_of((at, old, new)), new)
            self.wanted.update(by_place(at, old))

    def unlike_place(self):
        """The first place of a byte that is put in and wanted otherwise, None where there is none."""
        unlike = [at for at in self.put_in if self.wanted.get(at, self.put_in[at]) != self.put_in[at]]
        return min(unlike) if len(unlike) > 0 else None

    def spans(self):
        """From where to where the spots of either go there, those that touch or overlap in one."""
        whole = []
        for begin, end in sorted(self.begins_and_ends()):
            if len(whole) > 0 and begin <= whole[-1][1]:
                first, last = whole.pop()
                whole.append((first, max(last, end)))
            else:
                whole.append((begin, end))
        return whole

    def begins_and_ends(self):
        """Where each spot of either begins and ends there."""
        came = [(begin, self.came[begin][0]) for begin in self.came]
        return came + [(begin, self.goes[begin][0]) for begin in self.goes]

    def spot_of(self, begin, end):
        """The spot, of both patches in one, that goes from begin to end there."""
        growths = [last - first - len(old) for first, (last, old) in self.came.items() if last < begin]
        old = row_walked(begin, end, self.came, self.wanted)
        return (begin - sum(growths), old, row_walked(begin, end, self.goes, self.put_in))


def by_place(begin, row):
    """The row's bytes by their places, the first at begin."""
    return {begin + number: byte for number, byte in enumerate(row)}


def row_walked(begin, end, spots, known):
    """The row that lies from begin to end: what the spots that begin there have, between them the known bytes."""
    row = []
    at = begin
    while at <= end:
        if at in spots:
            at, told = spots[at]
            row.extend(told)
        # Behind a spot comes at least one byte of none, if the way doesn't end there.
        if at < end:
            row.append(known[at])
        at += 1
    return tuple(row)
