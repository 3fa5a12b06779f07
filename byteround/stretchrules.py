"""Which fields make a stretch."""

from byteround.bytesrows import is_row
from byteround.errors import NoWord
from byteround.kinds import are_unlike, is_between, is_listed, is_name, is_rising, is_tuple_of, is_whole
from byteround.words import word_at, words_of
from byteround.wordtable import hold_form

KINDS = ("code", "data", "room")
STEPS = (1, 2, 4, 8, 16)
GREATEST_SIZE = 4000
GREATEST_PLUS = 65535
GREATEST_ROW = 60000

# By the form of a hold: how many bytes its field has.
WIDTHS = {"near": 1, "full": 2}


def stretch_fault(name, kind, step, data, size, labels, holds, lines):
    """The name of the first field that isn't as told, by itself and with those ahead; None where all are."""
    if not is_name(name):
        return "name"
    if not is_kind(kind):
        return "kind"
    if not is_step(step):
        return "step"
    if not is_data(data, kind):
        return "data"
    if not is_size(size, kind, data):
        return "size"
    length = told_size(size, kind, data)
    if not are_labels(labels, places_to_stand(kind, data, length, ())):
        return "labels"
    if not are_holds(holds, kind, data, labels):
        return "holds"
    if not are_lines(lines, places_to_stand(kind, data, length, holds)):
        return "lines"
    return None


def is_kind(thing):
    """Whether the thing is a kind of stretches."""
    return isinstance(thing, str) and thing in KINDS


def is_step(thing):
    """Whether the thing is a step of stretches."""
    return is_whole(thing) and thing in STEPS


def is_data(thing, kind):
    """Whether the thing is data of a stretch of this kind."""
    if not is_row(thing):
        return False
    if kind == "room":
        return len(thing) == 0
    return kind == "data" or are_words(thing)


def are_words(row):
    """Whether the row is words, one behind another, and nothing else."""
    try:
        words_of(row)
    except NoWord:
        return False
    return True


def is_size(thing, kind, data):
    """Whether the thing is a size of a stretch of this kind and data."""
    if kind == "room":
        return is_between(thing, 1, GREATEST_SIZE)
    if thing is not None and not (is_whole(thing) and thing == len(data)):
        return False
    return 1 <= len(data) <= GREATEST_SIZE


def told_size(size, kind, data):
    """The size, also where it isn't told."""
    return size if kind == "room" else len(data)


def places_to_stand(kind, data, length, holds):
    """The offsets at which labels and lines may stand beside these holds, as keys."""
    if kind == "code":
        return {at: True for at, _ in words_of(data)}
    seconds = {hold[0] + 1: True for hold in holds}
    return {at: True for at in range(length) if at not in seconds}


def are_labels(thing, places):
    """Whether the thing is labels that stand at these places."""
    if not is_listed(thing) or not all([is_label(label, places) for label in thing]):
        return False
    if not are_unlike([name for name, _ in thing]):
        return False
    return is_rising([(offset, name) for name, offset in thing])


def is_label(thing, places):
    """Whether the thing is a label at one of these places."""
    return is_tuple_of(thing, 2) and is_name(thing[0]) and is_whole(thing[1]) and thing[1] in places


def are_holds(thing, kind, data, labels):
    """Whether the thing is holds of a stretch of this kind, data and labels."""
    if not is_listed(thing) or not all([is_hold(hold, data) for hold in thing]):
        return False
    if not all([one[0] + WIDTHS[one[1]] <= other[0] for one, other in zip(thing, thing[1:])]):
        return False
    if kind == "code":
        return are_code_holds(thing, data, labels)
    return are_data_holds(thing, labels)


def is_hold(thing, data):
    """Whether the thing is a hold whose field lies within the data and has bytes 0."""
    if not is_tuple_of(thing, 4):
        return False
    offset, form, name, plus = thing
    if not is_whole(offset) or offset < 0 or not isinstance(form, str) or form not in WIDTHS:
        return False
    if data[offset:offset + WIDTHS[form]] != (0,) * WIDTHS[form]:
        return False
    return is_name(name) and is_between(plus, 0, GREATEST_PLUS)


def are_code_holds(holds, data, labels):
    """Whether just the fields of go, call, if and point are held, each as it may be."""
    forms = [(at + 1, hold_form(word[0])) for at, word in words_of(data)]
    if [(hold[0], hold[1]) for hold in holds] != [field for field in forms if field[1] is not None]:
        return False
    offsets = {name: offset for name, offset in labels}
    return all([is_code_hold(hold, data, offsets) for hold in holds])


def is_code_hold(hold, data, offsets):
    """Whether the hold's plus may stand in code, and a near one reaches its label."""
    at, form, name, plus = hold
    if plus != 0 and field_word(data, at) != "point":
        return False
    if form == "full":
        return True
    return name in offsets and -128 <= offsets[name] - (at + 1) <= 127


def field_word(data, at):
    """The name of the word of code whose held field is there."""
    word, _ = word_at(data, at=at - 1)
    return word[0]


def are_data_holds(holds, labels):
    """Whether all of data's holds are full, and no label stands within a field."""
    offsets = {offset: True for _, offset in labels}
    return all([hold[1] == "full" and hold[0] + 1 not in offsets for hold in holds])


def are_lines(thing, places):
    """Whether the thing is lines that stand at these places."""
    if not is_listed(thing) or not all([is_line(line, places) for line in thing]):
        return False
    if len(thing) == 0 or thing[0][0] != 0:
        return False
    return all([one[0] < other[0] and one[1] != other[1] for one, other in zip(thing, thing[1:])])


def is_line(thing, places):
    """Whether the thing is a line at one of these places."""
    if not is_tuple_of(thing, 2) or not is_whole(thing[0]) or thing[0] not in places:
        return False
    return is_between(thing[1], 0, GREATEST_ROW)
