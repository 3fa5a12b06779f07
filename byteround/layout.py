"""Where stretches are laid in an image, and in which of them a spot lies."""

from byteround.wordtable import hold_form, width_of
from byteround.words import words_of


def begin_behind(end, step):
    """The least place from the end on that the step divides."""
    return (end + step - 1) // step * step


def size_laid(stretches):
    """How many bytes an image of these stretches has, rooms too."""
    begin, size, _, _ = stretches[-1]
    return begin + size


def stretch_at(stretches, spot):
    """The number of the stretch in which the spot lies, None where it lies in none."""
    low, high = 0, len(stretches)
    while high - low > 1:
        middle = (low + high) // 2
        if stretches[middle][0] <= spot:
            low = middle
        else:
            high = middle
    begin, size, _, _ = stretches[low]
    return low if begin <= spot < begin + size else None


def place_at(stretches, spot):
    """The place, (stretch, offset), of a spot within a stretch."""
    number = stretch_at(stretches, spot)
    return (number, spot - stretches[number][0])


def bytes_laid(data, stretch):
    """The bytes of the stretch, of a room none."""
    begin, size, kind, _ = stretch
    return () if kind == "room" else data[begin:begin + size]


def words_laid(data, stretches):
    """By its spot each word of the stretches of code, or NoWord."""
    words = {}
    for begin, size, kind, _ in stretches:
        if kind == "code":
            for at, word in words_of(data[begin:begin + size]):
                words[begin + at] = word
    return words


def near_target(at, word):
    """To where the near field of the word leads that begins there."""
    return at + width_of(word[0]) + word[2]


def full_fields(words):
    """By the spot of each full field of these words the name of its word."""
    return {spot + 1: words[spot][0] for spot in words if hold_form(words[spot][0]) == "full"}
