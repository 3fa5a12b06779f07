"""Fields of bytes, read one by one: NoBytes at the first that isn't right."""

from byteround.bytesrows import bytes_of, is_row, long_at, number_of, sum_of
from byteround.errors import NoBytes
from byteround.fieldwriter import FIRST_LETTER, SHORT_NAME, WIDEST
from byteround.kinds import LETTERS, LONGEST_NAME, copied
from byteround.stretchrules import GREATEST_SIZE


class FieldReader:
    """Where a row of bytes is read, by which edition, by which table of names."""

    def __init__(self, thing):
        if not is_row(thing):
            raise NoBytes(0)
        self.row = copied(thing)
        self.at = 0
        self.edition = WIDEST
        self.table = []
        self.begins = []
        self.used = {}

    def read_head(self, sign):
        """Reads the sign, the edition, in edition 3 the table."""
        self.byte_field((sign,))
        self.edition = self.byte_field((1, 2, 3))
        if self.edition == WIDEST:
            self.read_table()

    def read_table(self):
        for _ in range(self.number_field()):
            begin = self.at
            name = self.spelled_field(LONGEST_NAME)
            if len(self.table) > 0 and name <= self.table[-1]:
                raise NoBytes(begin)
            self.table.append(name)
            self.begins.append(begin)

    def bytes_field(self, many):
        """The next so many bytes."""
        begin = self.at
        if begin + many > len(self.row):
            raise NoBytes(len(self.row))
        self.at = begin + many
        return self.row[begin:begin + many]

    def byte_field(self, choices):
        """The next byte, one of these."""
        begin = self.at
        byte = self.bytes_field(1)[0]
        if byte not in choices:
            raise NoBytes(begin)
        return byte

    def number_field(self):
        if self.edition < WIDEST:
            return number_of(self.bytes_field(self.edition))
        number, self.at = long_at(self.row, at=self.at)
        return number

    def size_field(self):
        """The size of a stretch."""
        begin = self.at
        size = self.number_field()
        if not 1 <= size <= GREATEST_SIZE:
            raise NoBytes(begin)
        return size

    def spelled_field(self, most):
        """A name of at most so many letters, letter by letter."""
        begin = self.at
        many = self.bytes_field(1)[0]
        letters = [byte - FIRST_LETTER for byte in self.bytes_field(many)]
        if not 1 <= many <= most or not all([0 <= letter < len(LETTERS) for letter in letters]):
            raise NoBytes(begin)
        return "".join([LETTERS[letter] for letter in letters])

    def name_field(self):
        if self.edition < WIDEST:
            return self.spelled_field(SHORT_NAME if self.edition == 1 else LONGEST_NAME)
        begin = self.at
        number = self.number_field()
        if number >= len(self.table):
            raise NoBytes(begin)
        self.used[number] = True
        return self.table[number]

    def named(self):
        return [self.name_field() for _ in range(self.number_field())]

    def labelled(self):
        return [(self.name_field(), self.number_field()) for _ in range(self.number_field())]

    def lined(self):
        return [(self.number_field(), self.number_field()) for _ in range(self.number_field())]

    def read_sum(self):
        begin = self.at
        if self.bytes_field(2) != bytes_of(sum_of(self.row[:begin])):
            raise NoBytes(begin)

    def read_end(self):
        """Reads in edition 3 the sum; behind it there is no byte, and nothing has no name of the table."""
        if self.edition == WIDEST:
            self.read_sum()
        if self.at < len(self.row):
            raise NoBytes(self.at)
        for number, begin in enumerate(self.begins):
            if number not in self.used:
                raise NoBytes(begin)
