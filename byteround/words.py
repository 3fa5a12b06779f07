"""Words: as tuples, as bytes, as texts."""

from byteround.bytesrows import bytes_of, number_of
from byteround.errors import NoWord
from byteround.kinds import is_between, is_tuple_of
from byteround.wordtable import WORDS, begun_by, field_of, first_byte, registers_of

FIGURES = "0123456789"
MOST_FIGURES = 5


def is_word(thing):
    """Whether the thing is a word."""
    if not is_tuple_of(thing, 3):
        return False
    name, registers, number = thing
    if not isinstance(name, str) or name not in WORDS:
        return False
    return has_registers(name, registers) and has_number(name, number)


def has_registers(name, registers):
    """Whether these are registers of the named word."""
    told = registers_of(name)
    if not isinstance(registers, str) or len(registers) != len(told):
        return False
    return all([letter in letters for letter, (letters, _) in zip(registers, told)])


def has_number(name, number):
    """Whether this is a number of the named word, None of one without a field."""
    many, least, most = field_of(name)
    if many == 0:
        return number is None
    return is_between(number, least, most)


def bytes_of_word(word):
    """The word's row of bytes."""
    name, registers, number = word
    row = (first_byte(name, registers),)
    if number is None:
        return row
    many, _, _ = field_of(name)
    return row + bytes_of(number + 256 if number < 0 else number, many=many)


def word_at(row, *, at=0):
    """The word at a place of the row and the place behind it, or NoWord."""
    # A place below 0 is none, though Python would reckon it from the end.
    begun = begun_by(row[at]) if 0 <= at < len(row) else None
    if begun is None:
        raise NoWord(at)
    name, registers = begun
    many, _, most = field_of(name)
    behind = at + 1 + many
    if behind > len(row):
        raise NoWord(len(row))
    if many == 0:
        return ((name, registers, None), behind)
    number = number_of(row[at + 1:behind])
    return ((name, registers, number - 256 if number > most else number), behind)


def words_of(row):
    """The whole row's words, each with its place, or NoWord by the first that is none."""
    words = []
    at = 0
    while at < len(row):
        word, behind = word_at(row, at=at)
        words.append((at, word))
        at = behind
    return words


def show_word(word):
    """The word's text."""
    name, registers, number = word
    texts = [name] + list(registers)
    if number is not None:
        texts.append(str(number))
    return " ".join(texts)


def read_word(text):
    """The word of a text, or NoWord."""
    if not isinstance(text, str):
        raise NoWord(0)
    name, *texts = text.split(" ")
    if name not in WORDS:
        raise NoWord(0)
    many = len(registers_of(name))
    word = (name, "".join(texts[:many]), number_told(texts[many:]))
    # What the parts were read from may have been parted otherwise: only the word's own text will do.
    if not is_word(word) or show_word(word) != text:
        raise NoWord(0)
    return word


def number_told(texts):
    """The number that a lone text tells, None where there is none such."""
    if len(texts) != 1:
        return None
    figures = texts[0].removeprefix("-")
    # Python itself refuses to read numbers of very many figures.
    if not 1 <= len(figures) <= MOST_FIGURES or not all([sign in FIGURES for sign in figures]):
        return None
    return int(texts[0])
