"""Looks at what is told of links: at lists of kept stretches, at images."""

from byteround.errors import Beyond, NoEntry, NotCode, TooGreat, Twice, Untold
from byteround.kinds import is_tuple_of, is_whole
from byteround.linking import link
from byteround.linkplan import LinkPlan


def shows_reached(units, entry, thing, *, shelves=(), keep=()):
    """Whether the thing is a list of the kept stretches, each shown by entry, keep or the hold of a kept one."""
    try:
        plan = LinkPlan(units, entry, shelves, keep)
    except (Twice, NoEntry, Untold, NotCode, Beyond):
        return False
    if not isinstance(thing, list) or not all([is_shown(row) for row in thing]):
        return False
    if [(part, k) for part, k, _ in thing] != sorted(plan.shown):
        return False
    shown = {(part, k): by for part, k, by in thing}
    return all([may_show(plan, key, shown[key]) for key in shown]) and all_come_to_none(shown)


def is_shown(thing):
    """Whether the thing is a tuple (part, stretch, by) of numbers, whether there are such or not."""
    if not is_tuple_of(thing, 3) or not is_whole(thing[0]) or not is_whole(thing[1]):
        return False
    by = thing[2]
    return by is None or is_tuple_of(by, 3) and all([is_whole(number) for number in by])


def may_show(plan, key, by):
    """Whether this shows the stretch: None just of entry and keep, else a kept one's hold that leads there."""
    if by is None or key in plan.roots:
        return by is None and key in plan.roots
    part, k, number = by
    if (part, k) not in plan.shown or not 0 <= number < len(plan.leads[(part, k)]):
        return False
    place = plan.leads[(part, k)][number]
    return place is not None and place[:2] == key


def all_come_to_none(shown):
    """Whether from each stretch the holds that show it, followed back, come to one that None shows."""
    for key in shown:
        steps = 0
        by = shown[key]
        while by is not None and steps <= len(shown):
            by = shown[by[:2]]
            steps += 1
        if by is not None:
            return False
    return True


def is_linked(unit, entry, thing, *, keep=()):
    """Whether the thing is the image that link tells of the unit."""
    try:
        image = link([unit], entry, keep=keep)
    except (Twice, NoEntry, Untold, NotCode, Beyond, TooGreat):
        return False
    return image == thing
