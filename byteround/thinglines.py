"""Things of a bench in one line each, by their kinds."""

from byteround.bytesrows import SIGNS
from byteround.errors import NoText
from byteround.hexlines import read_hex_line, show_hex_line
from byteround.imagebytes import image_bytes, read_image
from byteround.patches import Patch
from byteround.shelves import read_shelf, shelf_bytes
from byteround.stripping import Chart
from byteround.unitbytes import read_unit, unit_bytes

CONSTANTS = {"none": None, "true": True, "false": False}
OPENINGS = ("(", "[")
CLOSINGS = (")", "]")
QUOTE = "'"

# No thing that is put has so many tuples within one another.
DEEPEST = 20


def thing_line(thing, kind):
    """The line of a thing of this kind."""
    if kind == "text":
        return text_spelled(thing)
    if kind == "row":
        return show_hex_line(thing)
    if kind == "unit":
        return show_hex_line(unit_bytes(thing))
    if kind == "image":
        return show_hex_line(image_bytes(thing))
    if kind == "shelf":
        return show_hex_line(shelf_bytes(thing))
    if kind == "chart":
        return " ".join(value_words((thing.total, thing.notes)))
    return " ".join(value_words((thing.length, thing.spots)))


def thing_of_line(line, kind):
    """The thing of this kind that the line tells; or NoText, NoHex, NoBytes, NoPatch."""
    if kind == "text":
        return text_read(line)
    if kind == "row":
        return read_hex_line(line)
    if kind == "unit":
        return read_unit(read_hex_line(line))
    if kind == "image":
        return read_image(read_hex_line(line))
    if kind == "shelf":
        return read_shelf(read_hex_line(line))
    one, other = pair_of_line(line)
    if kind == "chart":
        return Chart(one, other)
    if kind == "patch":
        return Patch(one, other)
    raise NoText(0)


def text_spelled(text):
    """The text without line feeds."""
    return text.replace("\\", "\\\\").replace("\n", "\\n")


def text_read(spelled):
    """The text that is spelled so, blanks as signs too."""
    parts = spelled.split("\\\\")
    return "\\".join([part.replace("\\n", "\n").replace("\\s", " ") for part in parts])


def value_words(thing):
    """The words of a thing made of None, truths, whole numbers, texts, tuples and lists."""
    if thing is None:
        return ["none"]
    if isinstance(thing, bool):
        return ["true" if thing else "false"]
    if isinstance(thing, int):
        # By sixteen signs, as Python doesn't show each number by figures.
        return [f"{thing:x}"]
    if isinstance(thing, str):
        return [QUOTE + text_spelled(thing).replace(" ", "\\s")]
    brackets = 0 if isinstance(thing, tuple) else 1
    return [OPENINGS[brackets]] + [word for part in thing for word in value_words(part)] + [CLOSINGS[brackets]]


def pair_of_line(line):
    """The two things that the line has in one tuple, or NoText."""
    things = things_read(line.split(" "))
    if len(things) != 1 or not isinstance(things[0], tuple) or len(things[0]) != 2:
        raise NoText(0)
    return things[0]


def things_read(words):
    """The things that the words tell, of brackets that are closed, or NoText."""
    open_rows = [[]]
    for word in words:
        if word in OPENINGS:
            if len(open_rows) > DEEPEST:
                raise NoText(0)
            open_rows.append([])
        elif word in CLOSINGS:
            if len(open_rows) == 1:
                raise NoText(0)
            row = open_rows.pop()
            open_rows[-1].append(tuple(row) if word == CLOSINGS[0] else row)
        else:
            open_rows[-1].append(leaf_read(word))
    return open_rows[0]


def leaf_read(word):
    """The thing that one word tells, no tuple and no list, or NoText."""
    if word in CONSTANTS:
        return CONSTANTS[word]
    if word.startswith(QUOTE):
        return text_read(word.removeprefix(QUOTE))
    figures = word.removeprefix("-")
    if figures == "" or not all([sign in SIGNS for sign in figures]):
        raise NoText(0)
    return int(word, 16)
