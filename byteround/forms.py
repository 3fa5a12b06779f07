"""Which words of a draft are short and which long, and where by that each row's bytes are."""

from byteround.textrows import NUMBERS, UNMARKED, held_in
from byteround.wordtable import WORDS, hold_form, width_of

LEAST_NEAR = -128
GREATEST_NEAR = 127


class Forms:
    """The forms that a draft's words come to, round by round."""

    def __init__(self, draft):
        self.draft = draft
        self.longs = {}
        self.rounds = []
        for part in draft.parts:
            for number, stretch in enumerate(part.stretches):
                for row in stretch.rows:
                    if is_long_at_first(row, part, number):
                        self.longs[row.number] = True
        self.lengthen()

    def lengthen(self):
        """Lets all short words that don't reach become long, until none does."""
        grown = self.too_short()
        while len(grown) > 0:
            self.rounds.append(tuple(grown))
            for row in grown:
                self.longs[row] = True
            grown = self.too_short()

    def too_short(self):
        """The numbers of the rows whose words without a mark are short and don't reach."""
        grown = []
        for part in self.draft.parts:
            for number, stretch in enumerate(part.stretches):
                offsets = self.offsets_in(stretch)
                for row in stretch.rows:
                    if row.words[0] in UNMARKED and not self.reaches(row, part, number, offsets):
                        grown.append(row.number)
        return grown

    def reaches(self, row, part, number, offsets):
        """Whether the row's word, if it has a near field, reaches its label, if that is one of its stretch."""
        word = self.word_of(row)
        if hold_form(word) != "near":
            return True
        label = part.label_in(name_held(row), number)
        if label is None:
            return True
        behind = offsets[row.number] + width_of(word)
        return LEAST_NEAR <= offsets[label] - behind <= GREATEST_NEAR

    def word_of(self, row):
        """The name of the row's word with its mark."""
        name = row.words[0]
        if name not in UNMARKED:
            return name
        return name + (".long" if row.number in self.longs else ".short")

    def offsets_in(self, stretch):
        """By the number of each row of the stretch its offset there, as the forms stand."""
        offsets = {}
        end = 0
        for row in stretch.rows:
            offsets[row.number] = end
            end += self.many_of(row)
        return offsets

    def size_of(self, stretch):
        """How many bytes the stretch has."""
        return sum([self.many_of(row) for row in stretch.rows])

    def many_of(self, row):
        """How many bytes the row makes."""
        if row.kind == "code":
            return width_of(self.word_of(row))
        first = row.words[0]
        if first == "bytes":
            return len(row.words) - 1
        if first == "two":
            return 2 * (len(row.words) - 1)
        if first == "held":
            return 2
        return int(row.words[1]) if first in ("zeros", "leave") else 0


def is_long_at_first(row, part, number):
    """Whether the row's word without a mark is long ahead of all rounds."""
    if row.words[0] not in UNMARKED:
        return False
    if row.words[0] == "set":
        _, most = NUMBERS["byte"]
        return int(row.words[-1]) > most
    name = name_held(row)
    return part.label_in(name, number) is None or part.is_weak(name)


def name_held(row):
    """The name that the row's word or field holds, None of a row that holds none."""
    if row.words[0] == "held" or row.kind == "code" and holds_name(row.words[0]):
        name, _ = held_in(row.words[-1])
        return name
    return None


def holds_name(first):
    """Whether the word of code, with a mark or without one, holds a name."""
    return hold_form(first if first in WORDS else first + ".long") is not None
