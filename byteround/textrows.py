"""Rows of a text, each by itself."""

from byteround.kinds import is_between, is_name
from byteround.wordtable import WORDS, hold_form, registers_of

FIGURES = "0123456789"
MOST_FIGURES = 5

# By the slot of a row that wants a number: the least and the greatest one.
NUMBERS = {
    "byte": (0, 255),
    "two": (0, 65535),
    "line": (0, 60000),
    "many": (1, 4000),
    "plus": (1, 65535),
}
STEP_WORDS = ("1", "2", "4", "8", "16")

# By the first word of a row: of what kind it is, and what its other words are.
ROWS = {
    "part": ("part", ("name",)),
    "told": ("standing", ("name",)),
    "weak": ("standing", ("name",)),
    "soft": ("standing", ("name",)),
    "code": ("stretch", ("name", "step")),
    "data": ("stretch", ("name", "step")),
    "room": ("stretch", ("name", "step")),
    "row": ("line", ("line",)),
    "zeros": ("data", ("many",)),
    "held": ("data", ("held",)),
    "leave": ("room", ("many",)),
}

# The rows that have one or more numbers.
REPEATED = {"bytes": "byte", "two": "two"}

# The words of code that may stand without a mark.
UNMARKED = ("go", "call", "if", "set")


class TextRow:
    """A row that is one by itself: its number in the text, its kind, its words."""

    def __init__(self, number, words):
        self.number = number
        self.kind = row_kind(words[0])
        self.words = words


def row_kind(first):
    """Of what kind the row is that begins with this word."""
    if first in ROWS:
        kind, _ = ROWS[first]
        return kind
    if first in REPEATED:
        return "data"
    if first == "note":
        return "note"
    return "label" if is_label_word(first) else "code"


def is_label_word(word):
    """Whether the word puts a label."""
    return word.endswith(":") and is_name(word[:-1])


def row_fault(words):
    """The number of the row's first word that can't stand, how many there are where more must come, or None."""
    if words[0] == "note":
        return None
    slots = slots_of(words)
    if slots is None:
        return 0
    for at in range(1, len(words)):
        if at > len(slots) or not fits(words[at], slots[at - 1]):
            return at
    return len(words) if len(words) <= len(slots) else None


def slots_of(words):
    """What must stand behind the row's first word, None where that begins no row."""
    first = words[0]
    if first in ROWS:
        _, slots = ROWS[first]
        return slots
    if first in REPEATED:
        return (REPEATED[first],) * max(1, len(words) - 1)
    if is_label_word(first):
        return ()
    return word_slots(first)


def word_slots(name):
    """What must stand behind the name of a word of code, None where it is none."""
    # Without a mark there stands what may stand with the wider one.
    marked = name + ".long" if name in UNMARKED else name
    if marked not in WORDS:
        return None
    slots = tuple([letters for letters, _ in registers_of(marked)])
    _, _, field = WORDS[marked]
    if field is None:
        return slots
    if hold_form(marked) is None:
        return slots + (field,)
    return slots + ("held" if marked == "point" else "name",)


def fits(word, slot):
    """Whether the word may stand in the slot: a register's letter, or what the slot is called by."""
    if slot in NUMBERS:
        least, most = NUMBERS[slot]
        return is_between(number_in(word), least, most)
    if slot == "name":
        return is_name(word)
    if slot == "step":
        return word in STEP_WORDS
    if slot == "held":
        return held_in(word) is not None
    return len(word) == 1 and word in slot


def number_in(word):
    """The number that the word writes by figures, without noughts ahead; None of any other word."""
    # Python itself refuses to read numbers of very many figures.
    if not 1 <= len(word) <= MOST_FIGURES or not all([sign in FIGURES for sign in word]):
        return None
    return int(word) if word == str(int(word)) else None


def held_in(word):
    """The name and the plus that the word tells, NAME or NAME+N; None of any other word."""
    name, sign, figures = word.partition("+")
    if not is_name(name):
        return None
    if sign == "":
        return (name, 0)
    return (name, number_in(figures)) if fits(figures, "plus") else None
