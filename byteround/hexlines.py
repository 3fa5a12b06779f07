"""Rows of bytes in one line: as their texts are, but a blank in the place of each line feed."""

from byteround.bytesrows import read_hex, show_hex
from byteround.errors import NoHex

NOTHING = "-"


def show_hex_line(row):
    """The line of a row of bytes."""
    return NOTHING if len(row) == 0 else show_hex(row).replace("\n", " ")


def read_hex_line(line):
    """The row of bytes of a line, or NoHex."""
    if line == NOTHING:
        return ()
    # Byte by byte, as the text of many bytes has line feeds.
    row = tuple([byte for signs in line.split(" ") for byte in read_hex(signs)])
    if show_hex_line(row) != line:
        raise NoHex(0)
    return row
