"""How a thing is made by its deed of things on a bench."""

from byteround.assembling import assemble
from byteround.carrying import carried, patched
from byteround.dumping import dump
from byteround.imagebytes import image_bytes, read_image
from byteround.images import Image
from byteround.linking import join, link
from byteround.patches import chained, fitted, merged, patch_between, turned_back
from byteround.shelves import read_shelf, shelf_bytes
from byteround.stripping import stripped, with_notes
from byteround.things import Unit
from byteround.unitbytes import read_unit, unit_bytes


def by_put(deed, things):
    return deed[2]


def by_assemble(deed, things):
    return assemble(things[deed[2]])


def by_dump(deed, things):
    return dump(things[deed[2]])


def by_write(deed, things):
    thing = things[deed[2]]
    if isinstance(thing, Unit):
        return unit_bytes(thing, edition=deed[3])
    if isinstance(thing, Image):
        return image_bytes(thing, edition=deed[3])
    return shelf_bytes(thing)


def by_unit(deed, things):
    return read_unit(things[deed[2]])


def by_image(deed, things):
    return read_image(things[deed[2]])


def by_shelved(deed, things):
    return read_shelf(things[deed[2]])


def by_shelf(deed, things):
    return [things[name] for name in deed[2]]


def by_join(deed, things):
    return join([things[name] for name in deed[2]])


def by_link(deed, things):
    units = [things[name] for name in deed[2]]
    shelves = [things[name] for name in deed[3]]
    return link(units, deed[4], shelves=shelves, keep=deed[5])


def by_strip(deed, things):
    image, _ = stripped(things[deed[2]])
    return image


def by_chart(deed, things):
    _, chart = stripped(things[deed[2]])
    return chart


def by_noted(deed, things):
    return with_notes(things[deed[2]], things[deed[3]])


def by_patch(deed, things):
    return patch_between(things[deed[2]], things[deed[3]])


def by_fit(deed, things):
    thing, patch = things[deed[2]], things[deed[3]]
    if isinstance(thing, Image):
        return patched(thing, patch)
    return fitted(patch, thing)


def by_turn(deed, things):
    return turned_back(things[deed[2]])


def by_chain(deed, things):
    return chained(things[deed[2]], things[deed[3]])


def by_merge(deed, things):
    return merged(things[deed[2]], things[deed[3]])


def by_carry(deed, things):
    return carried(things[deed[2]], things[deed[3]], things[deed[4]])


TOOLS = {
    "put": by_put, "assemble": by_assemble, "dump": by_dump, "write": by_write, "unit": by_unit, "image": by_image,
    "shelved": by_shelved, "shelf": by_shelf, "join": by_join, "link": by_link, "strip": by_strip, "chart": by_chart,
    "noted": by_noted, "patch": by_patch, "fit": by_fit, "turn": by_turn, "chain": by_chain, "merge": by_merge,
    "carry": by_carry,
}


def made_by_deed(deed, things):
    """The thing that the deed makes of things by their names, or as the tool refuses."""
    tool = TOOLS[deed[0]]
    return tool(deed, things)
