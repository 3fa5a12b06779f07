"""Benches as texts: the doings that stand, row by row, each thing that was put in one line."""

from byteround.bench import Bench
from byteround.deedrows import deed_told, deed_words
from byteround.deeds import kind_of_thing
from byteround.errors import (
    Beyond, Circle, Clash, Misfit, NoBytes, NoDeed, NoEdition, NoEntry, NoHex, NoImage, NoPatch, NotCode, NoText,
    NoThing, OtherImage, OtherKind, OtherProgram, TooGreat, Twice, Uncarried, Untold, Wrong)
from byteround.kinds import many_alike
from byteround.textrows import number_in
from byteround.thinglines import thing_line, thing_of_line


def bench_text(bench):
    """The text of the doings that stand."""
    return "\n".join([row for doing, _ in bench.done for row in doing_rows(doing)])


def doing_rows(doing):
    """The rows of a doing: a deed, several, or a remake."""
    word, told = doing
    if word == "do":
        return [deed_row(told)]
    if word == "several":
        return [f"several {len(told)}"] + [deed_row(deed) for deed in told]
    return [" ".join(["remake", *told])]


def deed_row(deed):
    """The row of a deed."""
    if deed[0] != "put":
        return " ".join(deed_words(deed))
    _, name, thing = deed
    kind = kind_of_thing(thing)
    return f"put {name} {kind} {thing_line(thing, kind)}"


def read_bench(text):
    """The bench that has this text, or NoText."""
    if not isinstance(text, str):
        raise NoText(0)
    rows = [] if text == "" else text.split("\n")
    bench = Bench()
    at = 0
    while at < len(rows):
        try:
            at = do_rows(bench, rows, at)
        except (
                Beyond, Circle, Clash, Misfit, NoBytes, NoDeed, NoEdition, NoEntry, NoHex, NoImage, NoPatch, NotCode,
                NoText, NoThing, OtherImage, OtherKind, OtherProgram, TooGreat, Twice, Uncarried, Untold, Wrong):
            raise NoText(at + 1)
    # A row may have been read that no bench writes so.
    written = bench_text(bench)
    if written != text:
        raise NoText(min(many_alike(rows, written.split("\n")) + 1, len(rows)))
    return bench


def do_rows(bench, rows, at):
    """Does the doing whose first row is at this place, and tells the place behind its last one."""
    word, *others = rows[at].split(" ")
    if word == "several" and len(others) == 1 and number_in(others[0]) is not None:
        behind = at + 1 + number_in(others[0])
        bench.several([deed_of_row(row) for row in rows[at + 1:behind]])
        return min(behind, len(rows))
    if word == "remake" and len(others) == 0:
        bench.remake_all()
    elif word == "remake":
        bench.remake(" ".join(others))
    else:
        bench.do(deed_of_row(rows[at]))
    return at + 1


def deed_of_row(row):
    """The deed that the row tells, None where it tells none; or NoText, NoHex, NoBytes, NoPatch."""
    words = row.split(" ", 3)
    if words[0] == "put" and len(words) == 4:
        _, name, kind, line = words
        return ("put", name, thing_of_line(line, kind))
    return deed_told(row.split(" "))
