"""Fields of bytes, as each edition writes them."""

from byteround.bytesrows import bytes_of, long_of, sum_of
from byteround.kinds import LETTERS, copied

FIRST_LETTER = 97

# How many letters a name may have in edition 1.
SHORT_NAME = 4

# The edition with long numbers, a table and a sum.
WIDEST = 3


def joined(rows):
    """All bytes of the rows, one behind another."""
    return tuple([byte for row in rows for byte in row])


def spelled(name):
    """The name as editions 1 and 2 write it, and tables do."""
    return (len(name),) + tuple([FIRST_LETTER + LETTERS.index(letter) for letter in name])


def with_sum(row):
    """The row with the sum of its bytes behind."""
    return row + bytes_of(sum_of(row))


def named_once(names):
    """The names, rising, each once."""
    return sorted(set(names))


class FieldWriter:
    """Writes fields as the edition does, in edition 3 names by a table of these."""

    def __init__(self, edition, table):
        self.edition = copied(edition)
        self.table = list(table)
        self.numbers = {name: number for number, name in enumerate(table)}

    def number_field(self, number):
        if self.edition == WIDEST:
            return long_of(number)
        # Edition 1 has one byte, edition 2 two.
        return bytes_of(number, many=self.edition)

    def name_field(self, name):
        return long_of(self.numbers[name]) if self.edition == WIDEST else spelled(name)

    def listed(self, rows):
        """How many rows there are, and these."""
        return self.number_field(len(rows)) + joined(rows)

    def named(self, names):
        return self.listed([self.name_field(name) for name in names])

    def labelled(self, labels):
        return self.listed([self.name_field(name) + self.number_field(offset) for name, offset in labels])

    def lined(self, lines):
        return self.listed([self.number_field(offset) + self.number_field(row) for offset, row in lines])

    def opening(self, sign):
        """The sign, the edition, in edition 3 the table."""
        if self.edition < WIDEST:
            return (sign, self.edition)
        return (sign, self.edition) + self.table_field()

    def table_field(self):
        """All names of the table."""
        return self.listed([spelled(name) for name in self.table])

    def whole(self, row):
        """All fields, in edition 3 with their sum."""
        return with_sum(row) if self.edition == WIDEST else row
