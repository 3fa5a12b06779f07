"""Units joined, and linked into images."""

from byteround.bytesrows import bytes_of
from byteround.errors import TooGreat
from byteround.images import Image
from byteround.layout import begin_behind, size_laid
from byteround.linkplan import LinkPlan
from byteround.stretchrules import WIDTHS
from byteround.taking import parts_of
from byteround.things import Unit

BIGGEST = 40000


def join(units):
    """The unit of all parts of one or more units."""
    return Unit(parts_of(units))


def reached(units, entry, *, shelves=(), keep=()):
    """The stretches that are kept: (part, stretch, by), or a refusal of link."""
    plan = LinkPlan(units, entry, shelves, keep)
    return [(part, k, plan.shown[(part, k)]) for part, k in sorted(plan.shown)]


def link(units, entry, *, shelves=(), keep=()):
    """The image of the units and of what is taken for them; or Twice, NoEntry, Untold, NotCode, Beyond, TooGreat."""
    plan = LinkPlan(units, entry, shelves, keep)
    kept = laid_order(plan)
    stretches = stretches_laid(plan, kept)
    size = size_laid(stretches)
    if size > BIGGEST:
        raise TooGreat(size)
    begins = {key: begin for key, (begin, _, _, _) in zip(kept, stretches)}
    return Image(
        data_linked(plan, begins), stretches, holds_linked(plan, begins), spot_of(plan.entry, begins),
        notes=[note_of(plan, key) for key in kept])


def laid_order(plan):
    """The kept stretches, (part, stretch), as they are laid: rooms behind all others."""
    kept = sorted(plan.shown)
    rooms = [key for key in kept if plan.stretch_at(key).kind == "room"]
    return [key for key in kept if plan.stretch_at(key).kind != "room"] + rooms


def stretches_laid(plan, kept):
    """The image's stretches: each begins at the least place that its step divides."""
    laid = []
    end = 0
    for key in kept:
        stretch = plan.stretch_at(key)
        begin = begin_behind(end, stretch.step)
        laid.append((begin, stretch.size, stretch.kind, stretch.step))
        end = begin + stretch.size
    return laid


def spot_of(place, begins):
    """The spot of a place in a kept stretch."""
    part, k, offset = place
    return begins[(part, k)] + offset


def data_linked(plan, begins):
    """The bytes of all but rooms, with 0 between, and the held fields' bytes."""
    row = []
    for key in begins:
        stretch = plan.stretch_at(key)
        if stretch.kind != "room":
            row.extend([0] * (begins[key] - len(row)))
            row.extend(stretch_linked(plan, key, begins))
    return tuple(row)


def stretch_linked(plan, key, begins):
    """The stretch's bytes with those of its held fields."""
    stretch = plan.stretch_at(key)
    row = list(stretch.data)
    for (at, form, _, _), place in zip(stretch.holds, plan.leads[key]):
        behind = at + WIDTHS[form]
        if form == "near":
            # A near field leads within its own stretch.
            row[at] = (place[2] - behind) % 256
        elif place is not None:
            row[at:behind] = bytes_of(spot_of(place, begins))
    return row


def holds_linked(plan, begins):
    """The image's holds: its full fields."""
    return [
        (begins[key] + hold[0], None if place is None else spot_of(place, begins))
        for key in begins for hold, place in zip(plan.stretch_at(key).holds, plan.leads[key]) if hold[1] == "full"]


def note_of(plan, key):
    """What an image notes of the stretch."""
    stretch = plan.stretch_at(key)
    return (key[0], plan.parts[key[0]].name, stretch.name, stretch.labels, stretch.lines)
