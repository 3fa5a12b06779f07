"""Images and units made by short calls."""

from byteround.images import Image

HALT = 0x00


def laid(*specs):
    """The data and the stretches of specs (kind, step, row), of a room (kind, step, size)."""
    data, stretches, end = [], [], 0
    for kind, step, what in specs:
        begin = -(-end // step) * step
        size = what if kind == "room" else len(what)
        if kind != "room":
            data += [0] * (begin - len(data)) + list(what)
        stretches.append((begin, size, kind, step))
        end = begin + size
    return tuple(data), tuple(stretches)


def image_of(*specs, holds=(), entry=0, notes=None):
    """An image of such specs; the bytes of its held fields are told by the holds."""
    data, stretches = laid(*specs)
    row = list(data)
    for at, target in holds:
        row[at:at + 2] = (0, 0) if target is None else divmod(target, 256)
    return Image(tuple(row), stretches, holds, entry, notes=notes)


def code_image(*row, data=(), room=0, holds=(), entry=0):
    """An image of code, behind it data and a room, if they are told, all of step 1."""
    specs = [("code", 1, row)]
    if data:
        specs.append(("data", 1, data))
    if room:
        specs.append(("room", 1, room))
    return image_of(*specs, holds=holds, entry=entry)
