"""Units told as texts, of which the same units are assembled again."""

from byteround.words import show_word, words_of

WIDE = 16


def dump(unit, *, wide=WIDE):
    """A text of the unit, at most so many numbers in a row of bytes."""
    return "\n".join([row for part in unit.parts for row in part_rows(part, wide)])


def part_rows(part, wide):
    """The rows of the part."""
    rows = [f"part {part.name}"]
    rows.extend([f"told {name}" for name in part.told])
    rows.extend([f"weak {name}" for name in part.weak])
    rows.extend([f"soft {name}" for name in part.soft])
    for stretch in part.stretches:
        rows.append(f"{stretch.kind} {stretch.name} {stretch.step}")
        rows.extend(stretch_rows(stretch, wide))
    return rows


def stretch_rows(stretch, wide):
    """The rows that stand in the stretch: at each offset a line, labels, then what makes bytes there."""
    lines = {offset: row for offset, row in stretch.lines}
    rows = []
    for offset, made in making_rows(stretch, wide):
        if offset in lines:
            rows.append(f"row {lines[offset]}")
        rows.extend([f"{name}:" for name, at in stretch.labels if at == offset])
        rows.append(made)
    return rows


def making_rows(stretch, wide):
    """The rows of the stretch that make bytes, each with its offset."""
    if stretch.kind == "code":
        return code_rows(stretch)
    if stretch.kind == "data":
        return data_rows(stretch, wide)
    stops = stops_of(stretch)
    return [(one, f"leave {other - one}") for one, other in zip(stops, stops[1:])]


def code_rows(stretch):
    """The words of code."""
    held = held_texts(stretch)
    rows = []
    for at, word in words_of(stretch.data):
        if at + 1 in held:
            name, registers, _ = word
            rows.append((at, " ".join([name, *registers, held[at + 1]])))
        else:
            rows.append((at, show_word(word)))
    return rows


def data_rows(stretch, wide):
    """The held fields of data, and rows of bytes between."""
    held = held_texts(stretch)
    stops = stops_of(stretch)
    rows = []
    for one, other in zip(stops, stops[1:]):
        begin = one
        if one in held:
            rows.append((one, f"held {held[one]}"))
            begin = one + 2
        for at in range(begin, other, wide):
            numbers = [str(byte) for byte in stretch.data[at:min(at + wide, other)]]
            rows.append((at, " ".join(["bytes", *numbers])))
    return rows


def stops_of(stretch):
    """The offsets, rising, at which a row that makes bytes begins or ends: by labels, lines, holds and the end."""
    stops = [offset for _, offset in stretch.labels] + [offset for offset, _ in stretch.lines]
    return sorted(set(stops + [hold[0] for hold in stretch.holds] + [stretch.size]))


def held_texts(stretch):
    """By the offset of each held field what a text writes for it."""
    return {offset: name if plus == 0 else f"{name}+{plus}" for offset, _, name, plus in stretch.holds}
