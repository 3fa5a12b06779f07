"""Whether two images are one program."""

from byteround.layout import bytes_laid, place_at, stretch_at


class Side:
    """One of two images: its stretches, their bytes, their full fields."""

    def __init__(self, image):
        self.stretches = image.stretches
        self.entry = place_at(image.stretches, image.entry)
        self.rows = [bytes_laid(image.data, stretch) for stretch in image.stretches]
        self.fields = [[] for _ in image.stretches]
        for at, target in image.holds:
            number = stretch_at(image.stretches, at)
            place = None if target is None else place_at(image.stretches, target)
            self.fields[number].append((at - image.stretches[number][0], place))

    def offsets(self, number):
        """The offsets of the stretch's full fields."""
        return [at for at, _ in self.fields[number]]


def same_program(one, other):
    """("same", paper) of stretches that match, or ("apart", way, word, at) of the first two that don't."""
    mine, yours = Side(one), Side(other)
    pairs = {}
    turned = {}
    # Ways come in their order, fewest holds first: each pair is looked at by the first way that leads to it.
    ways = [([], mine.entry, yours.entry)]
    at = 0
    while at < len(ways):
        way, place, other_place = ways[at]
        apart = way_fault(mine, yours, place, other_place, pairs, turned)
        if apart is not None:
            word, offset = apart
            return ("apart", way, word, offset)
        number, other_number = place[0], other_place[0]
        if number not in pairs:
            pairs[number] = other_number
            turned[other_number] = number
            ways.extend(ways_on(way, mine.fields[number], yours.fields[other_number]))
        at += 1
    return ("same", sorted([(number, pairs[number]) for number in pairs]))


def ways_on(way, fields, other_fields):
    """The ways one hold longer, with the places to which they lead in both images."""
    return [
        (way + [number], fields[number][1], other_fields[number][1])
        for number in range(len(fields)) if fields[number][1] is not None]


def way_fault(mine, yours, place, other_place, pairs, turned):
    """In what the places to which a way leads don't match, (word, at), or None."""
    number, offset = place
    other_number, other_offset = other_place
    if pairs.get(number, other_number) != other_number or turned.get(other_number, number) != number:
        return ("twice", 0)
    _, size, kind, step = mine.stretches[number]
    _, other_size, other_kind, other_step = yours.stretches[other_number]
    if kind != other_kind:
        return ("kind", 0)
    if step != other_step:
        return ("step", 0)
    if size != other_size:
        return ("size", 0)
    if offset != other_offset:
        return ("spot", offset)
    # A pair that matched ahead needs no second look within.
    return None if number in pairs else inner_fault(mine, yours, number, other_number)


def inner_fault(mine, yours, number, other_number):
    """In what two stretches of one kind, step and size don't match, (word, at), or None."""
    offsets, other_offsets = mine.offsets(number), yours.offsets(other_number)
    held = {at + k: True for at in offsets + other_offsets for k in (0, 1)}
    row, other_row = mine.rows[number], yours.rows[other_number]
    unlike = [at for at in range(len(row)) if row[at] != other_row[at] and at not in held]
    if len(unlike) > 0:
        return ("bytes", unlike[0])
    if offsets != other_offsets:
        return ("holds", sorted(set(offsets) ^ set(other_offsets))[0])
    fields, other_fields = mine.fields[number], yours.fields[other_number]
    for (at, place), (_, other_place) in zip(fields, other_fields):
        if (place is None) != (other_place is None):
            return ("nowhere", at)
    return None
