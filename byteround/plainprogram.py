"""Texts as a plain run takes them: words, bytes and rooms row by row, each at a place of its own.

A place is (part's number, stretch's name, which of the words there) in code, else with an offset in its end.
"""

from byteround.assembling import bytes_of_text_row, holds_at, unit_of
from byteround.drafts import label_of
from byteround.forms import name_held
from byteround.linkplan import LinkPlan
from byteround.running import Memory, RunWord, moved_by
from byteround.textrows import held_in
from byteround.texts import read_forms
from byteround.wordtable import WORDS, registers_of


class PlainProgram:
    """All parts of some texts, and what their names lead to; or the texts' refusals, or the link's but TooGreat."""

    def __init__(self, texts, entry):
        whole = [read_forms(text) for text in texts]
        self.meanings = LinkPlan([unit_of(forms) for forms in whole], entry, (), ()).meanings
        drafted = [(forms, part) for forms in whole for part in forms.draft.parts]
        self.labels = [labels_placed(number, part, forms) for number, (forms, part) in enumerate(drafted)]
        self.words = {}
        self.rows = {}
        self.memory = Memory()
        self.entry = self.target_of(entry, 0, None)
        for number, (forms, part) in enumerate(drafted):
            for stretch in part.stretches:
                self.add_stretch(number, stretch, forms)

    def target_of(self, name, plus, number):
        """The place to which the name leads that the part of this number holds, None of nowhere."""
        meant = self.meanings.place_of(name, number)
        return None if meant is None else moved_by(self.labels[meant[0]][name], plus)

    def target_of_row(self, row, number):
        """The place to which the row leads that holds a name."""
        name, plus = held_in(row.words[-1])
        return self.target_of(name, plus, number)

    def add_stretch(self, number, stretch, forms):
        """Adds a stretch of the part of this number."""
        if stretch.kind == "code":
            self.add_words(number, stretch)
        else:
            self.add_bytes(number, stretch, forms)

    def add_bytes(self, number, stretch, forms):
        """Adds the bytes of a stretch of data, or of a room, of the part of this number, and what its fields hold."""
        key = (number, name_of(stretch))
        self.memory.lay(key, [byte for row in stretch.rows for byte in bytes_of_text_row(row, forms)])
        for row, at in placed_rows(stretch, forms):
            if holds_at(row):
                self.memory.hold(key + (at,), self.target_of_row(row, number))

    def add_words(self, number, stretch):
        """Adds the words of a stretch of code of the part of this number, and to which row each leads."""
        rows = [row for row in stretch.rows if row.kind == "code"]
        leads_to = rows_led_to(stretch)
        for at, row in enumerate(rows):
            place = (number, name_of(stretch), at)
            target = None if name_held(row) is None else self.target_of_row(row, number)
            self.words[place] = word_of_row(row, target, moved_by(place, 1) if at + 1 < len(rows) else None)
            self.rows[place] = (number, leads_to[row.number])


def name_of(stretch):
    """The name that the draft's stretch has."""
    return stretch.head.words[1]


def placed_rows(stretch, forms):
    """Each row of the stretch, with how many words, of code, or bytes there are ahead of it."""
    placed = []
    at = 0
    for row in stretch.rows:
        placed.append((row, at))
        at += 1 if row.kind == "code" else forms.many_of(row)
    return placed


def labels_placed(number, part, forms):
    """By each label of the part of this number its place."""
    return {
        label_of(row): (number, name_of(stretch), at)
        for stretch in part.stretches for row, at in placed_rows(stretch, forms) if row.kind == "label"}


def rows_led_to(stretch):
    """By the number of each row of the stretch the row to which it leads."""
    leads_to = {}
    told = None
    for row in stretch.rows:
        if row.kind == "line":
            told = int(row.words[1])
        leads_to[row.number] = row.number if told is None else told
    return leads_to


def word_of_row(row, target, behind):
    """The row's word, which leads to the target, if to any place, and ahead of the place behind."""
    first = row.words[0]
    name, _, _ = first.partition(".")
    # Registers are alike with either mark.
    many = len(registers_of(first if first in WORDS else first + ".long"))
    number = int(row.words[-1]) if name == "set" else None
    return RunWord(name, "".join(row.words[1:1 + many]), number, target, behind)
