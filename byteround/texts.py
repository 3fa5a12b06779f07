"""What is a text: its rows by themselves, and among the others."""

from byteround.drafts import Draft, label_of
from byteround.errors import Wrong
from byteround.forms import Forms, name_held
from byteround.stretchrules import GREATEST_SIZE
from byteround.textrows import TextRow, row_fault
from byteround.wordtable import hold_form


def need_text(text):
    """Refuses with Wrong what is no text."""
    read_forms(text)


def read_forms(text):
    """The text's draft and the forms of its words, or Wrong."""
    forms = Forms(Draft(read_rows(text)))
    faults = text_faults(forms)
    if len(faults) > 0:
        row, word = min(faults)
        raise Wrong(row, word)
    return forms


def read_rows(text):
    """The text's rows, each of which is one by itself, or Wrong."""
    if not isinstance(text, str):
        raise Wrong(0, 0)
    rows = [row.split(" ") for row in text.split("\n")]
    for number, words in enumerate(rows, start=1):
        fault = row_fault(words)
        if fault is not None:
            raise Wrong(number, fault)
    if all([words[0] == "note" for words in rows]):
        raise Wrong(len(rows), 0)
    return [TextRow(number, words) for number, words in enumerate(rows, start=1)]


def text_faults(forms):
    """What can't stand among the other rows, each (row, word)."""
    faults = [(row, 0) for row in forms.draft.misplaced]
    for part in forms.draft.parts:
        faults.extend(standing_faults(part))
        faults.extend(stretch_faults(part, forms))
        faults.extend(label_faults(part, forms))
        faults.extend(word_faults(part, forms))
    return faults


def standing_faults(part):
    """The told, weak and soft names that can't stand."""
    held = {name_held(row): True for stretch in part.stretches for row in stretch.rows}
    softs = {}
    faults = []
    for row in part.standings:
        sort, name = row.words
        if sort == "soft":
            is_wrong = name in part.labels or name not in held or name in softs
            softs[name] = True
        else:
            is_wrong = name not in part.labels or part.stands[name] != (sort, row.number)
        if is_wrong:
            faults.append((row.number, 1))
    return faults


def stretch_faults(part, forms):
    """The stretches whose names stand ahead of them, or that have too few bytes or too many."""
    ahead = {}
    faults = []
    for stretch in part.stretches:
        name = stretch.head.words[1]
        if not 1 <= forms.size_of(stretch) <= GREATEST_SIZE:
            faults.append((stretch.head.number, 0))
        elif name in ahead:
            faults.append((stretch.head.number, 1))
        ahead[name] = True
    return faults


def label_faults(part, forms):
    """The labels whose names stand ahead of them, or behind which their stretch has no byte."""
    faults = []
    for stretch in part.stretches:
        offsets = forms.offsets_in(stretch)
        size = forms.size_of(stretch)
        for row in stretch.rows:
            if row.kind == "label":
                _, first = part.labels[label_of(row)]
                if row.number != first or offsets[row.number] == size:
                    faults.append((row.number, 0))
    return faults


def word_faults(part, forms):
    """The words of code that lead to labels to which they can't lead."""
    faults = []
    for number, stretch in enumerate(part.stretches):
        offsets = forms.offsets_in(stretch)
        for row in stretch.rows:
            if row.kind != "code":
                continue
            if not forms.reaches(row, part, number, offsets):
                faults.append((row.number, 0))
            elif not may_lead(row, part, number, forms):
                faults.append((row.number, len(row.words) - 1))
    return faults


def may_lead(row, part, number, forms):
    """Whether the row's word, in the part's stretch of this number, may hold its name."""
    word = forms.word_of(row)
    name = name_held(row)
    if hold_form(word) == "near" and (part.label_in(name, number) is None or part.is_weak(name)):
        return False
    if word == "point" or name not in part.labels:
        return True
    place, _ = part.labels[name]
    return part.stretches[place].kind == "code"
