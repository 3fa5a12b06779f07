"""Deeds of a bench: which tuples are deeds, and which things they name."""

from byteround.bytesrows import is_row
from byteround.images import Image
from byteround.kinds import is_between, is_name
from byteround.patches import Patch
from byteround.stripping import Chart
from byteround.things import Unit

# By the word of a deed: what stands behind the name of the thing that it makes.
SLOTS = {
    "put": ("thing",),
    "assemble": ("text",),
    "dump": ("unit",),
    "write": ("written", "edition"),
    "unit": ("row",),
    "image": ("row",),
    "shelved": ("row",),
    "shelf": ("units",),
    "join": ("units",),
    "link": ("units", "shelves", "entry", "keep"),
    "strip": ("image",),
    "chart": ("image",),
    "noted": ("image", "chart"),
    "patch": ("row", "row"),
    "fit": ("fitted", "patch"),
    "turn": ("patch",),
    "chain": ("patch", "patch"),
    "merge": ("patch", "patch"),
    "carry": ("patch", "image", "image"),
    "drop": (),
}

# By the slot in which things are named: of which kinds they may be.
KINDS_NAMED = {
    "text": ("text",),
    "unit": ("unit",),
    "image": ("image",),
    "chart": ("chart",),
    "patch": ("patch",),
    "row": ("row",),
    "written": ("unit", "image", "shelf"),
    "fitted": ("row", "image"),
    "units": ("unit",),
    "shelves": ("shelf",),
}

# What may be written in an edition that is told.
EDITED = ("unit", "image")

# The slots in which several names stand.
SEVERAL = ("units", "shelves", "keep")


def kind_of_thing(thing):
    """Of which of the bench's kinds the thing is, None of none."""
    if isinstance(thing, str):
        return "text"
    if isinstance(thing, Unit):
        return "unit"
    if isinstance(thing, Image):
        return "image"
    if isinstance(thing, Chart):
        return "chart"
    if isinstance(thing, Patch):
        return "patch"
    if isinstance(thing, list) and all([isinstance(unit, Unit) for unit in thing]):
        return "shelf"
    return "row" if is_row(thing) else None


def is_deed(thing):
    """Whether the thing is a deed's tuple, and no join of no names."""
    if not isinstance(thing, tuple) or len(thing) < 2:
        return False
    if not isinstance(thing[0], str) or thing[0] not in SLOTS or not is_name(thing[1]):
        return False
    slots = SLOTS[thing[0]]
    if len(thing) != 2 + len(slots) or not all([fits_slot(part, slot) for part, slot in zip(thing[2:], slots)]):
        return False
    return thing[0] != "join" or len(thing[2]) > 0


def fits_slot(thing, slot):
    """Whether the thing may stand in a deed's slot."""
    if slot == "thing":
        return kind_of_thing(thing) is not None
    if slot == "edition":
        return thing is None or is_between(thing, 1, 3)
    if slot in SEVERAL:
        return isinstance(thing, tuple) and all([is_name(name) for name in thing])
    return is_name(thing)


def things_named(deed):
    """The names of the things of which the deed makes one, in its order, each with the kinds that it may be of."""
    named = []
    for part, slot in zip(deed[2:], SLOTS[deed[0]]):
        if slot in KINDS_NAMED:
            kinds = KINDS_NAMED[slot]
            if slot == "written" and deed[3] is not None:
                kinds = EDITED
            names = part if slot in SEVERAL else (part,)
            named.extend([(name, kinds) for name in names])
    return named
