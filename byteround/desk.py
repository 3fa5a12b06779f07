"""The desk: a bench that is told rows of words, and answers with texts."""

from byteround.bench import Bench
from byteround.deedrows import deed_told, names_word
from byteround.errors import NoAsk, NoHex, OtherKind
from byteround.hexlines import read_hex_line
from byteround.kinds import is_between, is_name
from byteround.leads import leads
from byteround.machine import run
from byteround.textrows import number_in

DONE = "ok"
NONE = "-"
GREATEST_INPUT = 65535

# The asks behind whose name all is one word, whatever its signs.
UNPARTED = ("row", "bytes")

# By the word of an ask, but of a deed: what stands behind it.
ASKED = {
    "text": ("name",),
    "row": ("name", "rest"),
    "bytes": ("name", "hex"),
    "remake": (),
    "undo": (),
    "redo": (),
    "names": (),
    "stale": (),
    "kind": ("name",),
    "of": ("name",),
    "makes": ("name",),
    "run": ("name", "figures"),
    "leads": ("name", "figures"),
}


def words_said(row):
    """The words of a row, or NoAsk of what is none."""
    if not isinstance(row, str) or "\n" in row:
        raise NoAsk(row)
    word, _, _ = row.partition(" ")
    return row.split(" ", 2) if word in UNPARTED else row.split(" ")


def is_ask(words):
    """Whether the words ask something."""
    if words[0] not in ASKED:
        return False
    slots = ASKED[words[0]]
    if words[0] == "remake" and len(words) > 1:
        slots = ("name",)
    if words[0] == "run":
        slots = slots + ("number",) * (len(words) - 3)
    return len(words) == 1 + len(slots) and all([fits_ask(word, slot) for word, slot in zip(words[1:], slots)])


def fits_ask(word, slot):
    """Whether the word may stand in the ask's slot."""
    if slot == "name":
        return is_name(word)
    if slot == "figures":
        return number_in(word) is not None
    if slot == "number":
        return is_between(number_in(word), 0, GREATEST_INPUT)
    return slot == "rest" or is_hex_line(word)


def is_hex_line(word):
    """Whether the word tells a row of bytes."""
    try:
        read_hex_line(word)
    except NoHex:
        return False
    return True


def put(bench, name, thing):
    """Puts the thing there."""
    bench.do(("put", name, thing))
    return DONE


def wanted(bench, name, kind):
    """The thing of this name, which must be of this kind: NoThing, OtherKind."""
    if bench.kind_of(name) != kind:
        raise OtherKind(name)
    return bench.thing_of(name)


def names_told(names):
    return names_word(names, " ")


def row_told(lead):
    """The part's number and the row of what leads tells."""
    part, _, _, row = lead
    return f"{part} {row}"


def say_text(bench, words):
    return put(bench, words[1], "")


def say_row(bench, words):
    text = wanted(bench, words[1], "text")
    return put(bench, words[1], words[2] if text == "" else text + "\n" + words[2])


def say_bytes(bench, words):
    return put(bench, words[1], read_hex_line(words[2]))


def say_remake(bench, words):
    return names_told(bench.remake_all() if len(words) == 1 else bench.remake(words[1]))


def say_undo(bench, words):
    bench.undo()
    return DONE


def say_redo(bench, words):
    bench.redo()
    return DONE


def say_names(bench, words):
    return names_told(bench.names())


def say_stale(bench, words):
    return names_told(bench.stale())


def say_kind(bench, words):
    return bench.kind_of(words[1])


def say_of(bench, words):
    return names_told(bench.made_of(words[1]))


def say_makes(bench, words):
    return names_told(bench.makes(words[1]))


def say_run(bench, words):
    image = wanted(bench, words[1], "image")
    outputs, how, where, _ = run(image, [int(word) for word in words[3:]], most=int(words[2]))
    lead = None
    if where is not None:
        number, offset = where
        begin, _, _, _ = image.stretches[number]
        lead = leads(image, begin + offset)
    told = names_told([str(number) for number in outputs])
    return f"{told}; {how}" if lead is None else f"{told}; {how} {row_told(lead)}"


def say_leads(bench, words):
    lead = leads(wanted(bench, words[1], "image"), int(words[2]))
    return NONE if lead is None else row_told(lead)


ANSWERS = {
    "text": say_text, "row": say_row, "bytes": say_bytes, "remake": say_remake, "undo": say_undo, "redo": say_redo,
    "names": say_names, "stale": say_stale, "kind": say_kind, "of": say_of, "makes": say_makes, "run": say_run,
    "leads": say_leads,
}


class Desk:
    """A bench that is told rows."""

    def __init__(self):
        self.bench = Bench()

    def say(self, row):
        """The answer to the row; or NoAsk, or as the bench refuses, NoPlace, NoBase."""
        words = words_said(row)
        deed = deed_told(words)
        if deed is not None:
            self.bench.do(deed)
            return DONE
        if not is_ask(words):
            raise NoAsk(row)
        answer = ANSWERS[words[0]]
        return answer(self.bench, words)
