"""Which parts make an image."""

from byteround.bytesrows import is_row, number_of
from byteround.errors import NoWord
from byteround.kinds import is_between, is_listed, is_name, is_tuple_of, is_whole
from byteround.layout import begin_behind, full_fields, near_target, stretch_at, words_laid
from byteround.stretchrules import GREATEST_SIZE, are_labels, are_lines, is_kind, is_step
from byteround.words import words_of
from byteround.wordtable import hold_form


def image_fault(data, stretches, holds, entry, notes):
    """The name of the first part that isn't as told, beside those ahead; None where all are."""
    if not is_row(data):
        return "data"
    if not are_image_stretches(stretches, data):
        return "stretches"
    words = words_laid(data, stretches)
    if not are_image_holds(holds, data, stretches, words):
        return "holds"
    if not is_whole(entry) or entry not in words:
        return "entry"
    if notes is not None and not are_notes(notes, stretches, holds, words):
        return "notes"
    return None


def are_image_stretches(thing, data):
    """Whether the thing is the stretches of an image of these data."""
    if not is_listed(thing) or len(thing) == 0 or not all([is_image_stretch(stretch) for stretch in thing]):
        return False
    if not are_laid_in_order(thing) or not are_bytes_due(data, thing):
        return False
    return all([is_laid_code(data[begin:begin + size]) for begin, size, kind, _ in thing if kind == "code"])


def is_image_stretch(thing):
    """Whether the thing is a stretch of an image, wherever it begins."""
    if not is_tuple_of(thing, 4):
        return False
    begin, size, kind, step = thing
    return is_whole(begin) and is_between(size, 1, GREATEST_SIZE) and is_kind(kind) and is_step(step)


def are_laid_in_order(stretches):
    """Whether rooms are behind all others, and each stretch begins at its least spot."""
    end = 0
    was_room = False
    for begin, size, kind, step in stretches:
        if begin != begin_behind(end, step) or was_room and kind != "room":
            return False
        was_room = kind == "room"
        end = begin + size
    return True


def are_bytes_due(data, stretches):
    """Whether the data are as long as the stretches want, and 0 between them."""
    end = 0
    for begin, size, kind, _ in stretches:
        if kind != "room":
            if any([byte != 0 for byte in data[end:begin]]):
                return False
            end = begin + size
    return len(data) == end


def is_laid_code(row):
    """Whether the row is words, whose near fields lead to begins of words there."""
    try:
        words = words_of(row)
    except NoWord:
        return False
    begins = {at: True for at, _ in words}
    return all([near_target(at, word) in begins for at, word in words if hold_form(word[0]) == "near"])


def are_image_holds(thing, data, stretches, words):
    """Whether the thing is the holds of an image of these data, stretches and words."""
    if not is_listed(thing) or not all([is_tuple_of(hold, 2) and is_whole(hold[0]) for hold in thing]):
        return False
    if not all([one[0] + 2 <= other[0] for one, other in zip(thing, thing[1:])]):
        return False
    fields = full_fields(words)
    if len([at for at, _ in thing if at in fields]) != len(fields):
        return False
    if not all([at in fields or is_in_data(at, stretches) for at, _ in thing]):
        return False
    return all([is_target(target, data[at:at + 2], fields.get(at), stretches, words) for at, target in thing])


def is_in_data(at, stretches):
    """Whether a held field at the spot lies within one stretch of data."""
    number = stretch_at(stretches, at)
    return number is not None and stretches[number][2] == "data" and stretch_at(stretches, at + 1) == number


def is_target(thing, field, name, stretches, words):
    """Whether the thing is what the field leads to, that of a word of this name, None of data."""
    if thing is None:
        return field == (0, 0)
    if not is_whole(thing) or thing != number_of(field):
        return False
    number = stretch_at(stretches, thing)
    if number is None:
        return False
    if stretches[number][2] == "code":
        return thing in words
    return name is None or name == "point"


def are_notes(thing, stretches, holds, words):
    """Whether the thing is notes, one for each of the stretches."""
    if not is_listed(thing) or len(thing) != len(stretches):
        return False
    seconds = {at + 1: True for at, _ in holds}
    return all([is_note(note, places_noted(stretch, seconds, words)) for note, stretch in zip(thing, stretches)])


def places_noted(stretch, seconds, words):
    """The offsets in the stretch at which labels and lines may stand, as keys."""
    begin, size, kind, _ = stretch
    spots = range(begin, begin + size)
    if kind == "code":
        return {spot - begin: True for spot in spots if spot in words}
    return {spot - begin: True for spot in spots if spot not in seconds}


def is_note(thing, places):
    """Whether the thing is a note of a stretch, labels and lines at these places."""
    if not is_tuple_of(thing, 5):
        return False
    number, part, stretch, labels, lines = thing
    if not is_whole(number) or number < 0 or not is_name(part) or not is_name(stretch):
        return False
    if not isinstance(labels, tuple) or not isinstance(lines, tuple):
        return False
    return are_labels(labels, places) and are_lines(lines, places)
