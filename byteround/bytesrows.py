"""Rows of bytes: as texts, as numbers, as long numbers, summed up."""

from byteround.errors import NoBytes, NoHex, NoNumber
from byteround.kinds import is_between, is_whole

SIGNS = "0123456789abcdef"
BYTES_A_LINE = 16
SUM_REST = 65536


def is_row(thing):
    """Whether the thing is a row of bytes."""
    return isinstance(thing, tuple) and all([is_between(byte, 0, 255) for byte in thing])


def show_hex(row):
    """The text of a row of bytes."""
    lines = [row[at:at + BYTES_A_LINE] for at in range(0, len(row), BYTES_A_LINE)]
    return "\n".join([" ".join([f"{byte:02x}" for byte in line]) for line in lines])


def read_hex(text):
    """The row of bytes of a text, or NoHex."""
    if not isinstance(text, str):
        raise NoHex(0)
    for at in range(len(text)):
        if not may_stand(text[at], at):
            raise NoHex(at)
    if len(text) > 0 and len(text) % 3 != 2:
        raise NoHex(len(text))
    return tuple([16 * SIGNS.index(text[at]) + SIGNS.index(text[at + 1]) for at in range(0, len(text), 3)])


def may_stand(sign, at):
    """Whether the sign may stand at this place of a row's text."""
    if at % 3 < 2:
        return sign in SIGNS
    if (at // 3 + 1) % BYTES_A_LINE == 0:
        return sign == "\n"
    return sign == " "


def bytes_of(number, *, many=2):
    """The number as so many bytes, the greatest first, or NoNumber."""
    if not is_whole(number) or number < 0:
        raise NoNumber(number)
    row = []
    rest = number
    for _ in range(many):
        row.append(rest & 255)
        rest = rest >> 8
    if rest > 0:
        raise NoNumber(number)
    return tuple(reversed(row))


def number_of(row):
    """The number that the row's bytes write, the greatest first."""
    number = 0
    for byte in row:
        number = number * 256 + byte
    return number


def long_of(number):
    """The long number's row of bytes, seven bits each, or NoNumber."""
    if not is_whole(number) or number < 0:
        raise NoNumber(number)
    row = [number & 127]
    rest = number >> 7
    while rest > 0:
        row.append(128 + (rest & 127))
        rest = rest >> 7
    return tuple(reversed(row))


def long_at(row, *, at=0):
    """The long number at a place of the row and the place behind it, or NoBytes."""
    if row[at:at + 1] == (128,):
        # Seven bits of nought ahead: a shorter row writes the same number.
        raise NoBytes(at)
    number = 0
    for place in range(at, len(row)):
        number = number * 128 + (row[place] & 127)
        if row[place] < 128:
            return (number, place + 1)
    raise NoBytes(len(row))


def sum_of(row):
    """The sum of the row's bytes, by its rest of 65536."""
    return sum(row) % SUM_REST
