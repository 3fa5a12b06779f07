"""Texts made into units, and what the rows of a text make."""

from byteround.bytesrows import bytes_of
from byteround.drafts import label_of
from byteround.forms import holds_name
from byteround.kinds import alike
from byteround.stretchrules import WIDTHS
from byteround.textrows import held_in
from byteround.texts import read_forms
from byteround.things import Part, Stretch, Unit
from byteround.words import bytes_of_word
from byteround.wordtable import field_of, hold_form, registers_of


def assemble(text):
    """The unit of a text, or Wrong."""
    return unit_of(read_forms(text))


def unit_of(forms):
    """The unit that the text of these forms makes."""
    return Unit([part_of(part, forms) for part in forms.draft.parts])


def rounds(text):
    """The rows whose words became long, round by round, or Wrong."""
    return read_forms(text).rounds


def shows_rounds(text, thing):
    """Whether the thing is the text's rounds, or Wrong."""
    return alike(thing, rounds(text))


def made_by(text):
    """By each row that makes bytes where they are: (part, stretch, offset, how many), or Wrong."""
    forms = read_forms(text)
    made = {}
    for number, part in enumerate(forms.draft.parts):
        for place, stretch in enumerate(part.stretches):
            offsets = forms.offsets_in(stretch)
            for row in stretch.rows:
                many = forms.many_of(row)
                if many > 0:
                    made[row.number] = (number, place, offsets[row.number], many)
    return made


def part_of(part, forms):
    """The part that the draft's part makes."""
    return Part(
        part.head.words[1], stretches=[stretch_of(stretch, forms) for stretch in part.stretches],
        told=standing_names(part, "told"), weak=standing_names(part, "weak"), soft=standing_names(part, "soft"))


def standing_names(part, sort):
    """The names of the part that are told, weak or soft."""
    return sorted([row.words[1] for row in part.standings if row.words[0] == sort])


def stretch_of(stretch, forms):
    """The stretch that the draft's stretch makes."""
    offsets = forms.offsets_in(stretch)
    labels = [(offsets[row.number], label_of(row)) for row in stretch.rows if row.kind == "label"]
    holds = [hold_of(row, offsets[row.number], forms) for row in stretch.rows if holds_at(row)]
    _, name, step = stretch.head.words
    return Stretch(
        name, kind=stretch.kind, step=int(step), data=data_of(stretch, forms), size=forms.size_of(stretch),
        labels=[(label, offset) for offset, label in sorted(labels)], holds=holds,
        lines=lines_of(stretch, offsets, forms))


def lines_of(stretch, offsets, forms):
    """The lines of the draft's stretch: a row leads to itself, or to what the line ahead of it tells."""
    lines = []
    told = None
    for row in stretch.rows:
        if row.kind == "line":
            told = int(row.words[1])
        elif forms.many_of(row) > 0:
            leads_to = row.number if told is None else told
            if len(lines) == 0 or lines[-1][1] != leads_to:
                lines.append((offsets[row.number], leads_to))
    return lines


def data_of(stretch, forms):
    """The bytes of the draft's stretch."""
    if stretch.kind == "room":
        return ()
    return tuple([byte for row in stretch.rows for byte in bytes_of_text_row(row, forms)])


def bytes_of_text_row(row, forms):
    """The bytes that the row makes, held fields and rooms 0."""
    first, *texts = row.words
    if row.kind == "code":
        return code_of_row(row, forms)
    if first == "bytes":
        return tuple([int(text) for text in texts])
    if first == "two":
        return tuple([byte for text in texts for byte in bytes_of(int(text))])
    return (0,) * forms.many_of(row)


def code_of_row(row, forms):
    """The bytes of the row's word, a held field 0."""
    name = forms.word_of(row)
    many, _, _ = field_of(name)
    number = None
    if many > 0:
        number = 0 if hold_form(name) is not None else int(row.words[-1])
    registers = "".join(row.words[1:1 + len(registers_of(name))])
    return bytes_of_word((name, registers, number))


def holds_at(row):
    """Whether the row's bytes have a held field."""
    return row.words[0] == "held" or row.kind == "code" and holds_name(row.words[0])


def hold_of(row, offset, forms):
    """The hold of the row whose bytes are at the offset: its field is what the bytes end with."""
    form = "full" if row.kind == "data" else hold_form(forms.word_of(row))
    name, plus = held_in(row.words[-1])
    return (offset + forms.many_of(row) - WIDTHS[form], form, name, plus)
