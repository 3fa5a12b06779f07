"""Units, images and texts of whole programs put together by chance, the same ones for the same seed."""

import random

from byteround.assembling import assemble
from byteround.errors import Beyond, Wrong
from byteround.linking import link
from byteround.things import Unit

CODE = (
    "halt", "back", "out a", "out b", "in a", "push a", "push b", "pop c", "copy b a", "add a b", "less a c", "times b b",
    "walk p a", "turn q b", "load a p", "store b p", "same d", "move q p", "take q p", "keep p q", "goat q", "callat p",
    "none d q")
STEPS = (1, 1, 1, 2, 4, 8, 16)


def pick_code(chance, name):
    plus = chance.choice(("", "", "+1", "+3"))
    return chance.choice((
        f"go {name}", f"call {name}", f"if a {name}", f"point p {name}", f"point q {name}{plus}", f"go.long {name}",
        f"set a {chance.randrange(400)}", f"set.long b {chance.randrange(9)}", f"row {chance.randrange(3)}",
        chance.choice(CODE), chance.choice(CODE)))


def pick_data(chance, name):
    plus = chance.choice(("", "", "+1", "+3"))
    return chance.choice((
        "bytes 1 2 3", f"bytes {chance.randrange(256)}", f"held {name}{plus}", f"held {name}", "two 300 1", "zeros 3",
        f"row {chance.randrange(3)}"))


def pick_room(chance, name):
    return chance.choice(("leave 3", "leave 7", f"row {chance.randrange(3)}"))


PICKS = {"code": (pick_code, "halt"), "data": (pick_data, "bytes 9"), "room": (pick_room, "leave 2")}


def chance_text(chance, number, own, others, told=0.5, soft=0.5):
    """A text of one part, which may be none: its labels are of own, its holds of own and others.

    told, soft: how likely a label is told, a name that isn't one is soft.
    """
    own = list(own)
    chance.shuffle(own)
    labels, rows = [], []
    for k in range(chance.randrange(1, 4)):
        kind = chance.choice(("code", "code", "data", "room"))
        pick, last = PICKS[kind]
        items = [pick(chance, chance.choice(list(own) + labels * 3 + list(others))) for _ in range(chance.randrange(1, 9))]
        for _ in range(min(len(own), chance.randrange(3))):
            labels.append(own.pop())
            items.insert(chance.randrange(len(items) + 1), labels[-1] + ":")
        rows += [f"{kind} s{'abc'[k]} {chance.choice(STEPS)}", *items, last]
    head = [f"part p{'abcdefgh'[number]}"]
    for label in labels:
        pick = chance.random()
        if pick < told + 0.2:
            head.append(("told " if pick < told else "weak ") + label)
    held = {row.split(" ")[-1].split("+")[0] for row in rows if row.split(" ")[0].split(".")[0] in
            ("go", "call", "if", "point", "held")}
    head += [f"soft {name}" for name in sorted(held - set(labels)) if chance.random() < soft]
    return "\n".join(head + rows)


def names_of(number):
    return ["abcdefgh"[k] + "abcdefgh"[number] for k in range(8)]


def chance_unit(chance, number=0, many=1, told=0.5, soft=0.5):
    """A unit of one part, whose names may be those of so many numbers."""
    others = [name for k in range(many) for name in names_of(k) if k != number] + ["far"]
    while True:
        try:
            return assemble(chance_text(chance, number, names_of(number), others, told, soft))
        except Wrong:
            pass


def chance_units(seed, many):
    """So many units, of one part or several."""
    chance = random.Random(seed)
    units = []
    for _ in range(many):
        parts = [chance_unit(chance, k, 3).parts[0] for k in range(chance.choice((1, 1, 2, 3)))]
        units.append(Unit(parts))
    return units


STEADY = (
    "out a", "out b", "out d", "in a", "in b", "copy b a", "add a b", "less a c", "times b b", "same d", "move q p", "none d q",
    "set a 1", "set b 2", "set.long d 0", "push a", "pop c", "walk p b", "load a p", "store b q", "take q p", "keep p q", "back",
    "goat q", "callat p")


def program_rows(chance, codes, others):
    """Some rows of code that lead, if to any place, to these."""
    plus = chance.choice(("", "", "+1", "+2"))
    one, other, code = chance.choice(others), chance.choice(others), chance.choice(codes)
    return chance.choice((
        [f"point p {one}{plus}", "load a p", "out a"], [f"point q {one}{plus}", "store b q"], [f"point p {one}", "take q p", "none d q"],
        [f"point p {one}", f"point q {other}", "keep q p", "take q p", "same d"], [f"point q {code}", "callat q"],
        [f"point q {code}", f"point p {one}", "keep q p"], [f"point q {code}", f"if b {code}", "goat q"], [f"point q {one}", "turn q c"],
        [f"point p {one}", "set c 1", "walk p c", "load b p", "out b"], ["push b", "set b 7", "pop b"], ["point q zz", "none a q"],
        [f"call {code}"], [f"if d {code}", "set d 1"], [f"go {code}"], [f"set a {chance.randrange(400)}", "out a"], ["go zz"],
        [f"row {chance.randrange(4)}"], ["in a", "add b a", "out b"], *[[chance.choice(STEADY)] for _ in range(5)]))


def program_bytes(chance, names):
    """A row of data that leads, if to anything, to one of these."""
    return chance.choice((
        f"bytes {chance.randrange(256)} {chance.randrange(256)}", "two 300", "zeros 2", f"held {chance.choice(names)}", "held zz",
        f"held {chance.choice(names)}", f"row {chance.randrange(4)}"))


def stretch_rows(chance, head, labels, items, last):
    for label in labels:
        items.insert(chance.randrange(len(items) + 1), label + ":")
    return [f"{head} {chance.choice(STEPS)}", *items, last]


def part_text(chance, number, many):
    """A text of one part of so many: two stretches of code, two of data, a room; each part's labels are known to all."""
    def named(*kinds, own=False):
        return [kind + "abcdef"[k] + sign for k in range(many) if k == number or not own for kind in kinds for sign in "xy"]
    codes, others, names = named("c"), named("d", "r"), named("c", "d", "r")
    mine = iter("abcde")
    rows = []
    for sign in "xy":
        items = [row for _ in range(chance.randrange(2, 9)) for row in program_rows(chance, codes, others)]
        label = "c" + "abcdef"[number] + sign
        rows += stretch_rows(chance, f"code s{next(mine)}", [label], items, chance.choice(("halt", "back", f"go {label}")))
    for sign in "xy":
        items = [program_bytes(chance, names) for _ in range(chance.randrange(1, 6))]
        rows += stretch_rows(chance, f"data s{next(mine)}", ["d" + "abcdef"[number] + sign], items, "bytes 9 8 7")
    items = [f"leave {chance.randrange(1, 5)}", f"row {chance.randrange(4)}"]
    rows += stretch_rows(chance, f"room s{next(mine)}", ["r" + "abcdef"[number] + sign for sign in "xy"], items, "leave 3")
    head = ["note " + "x" * chance.randrange(3), f"part p{'abcdef'[number]}"]
    shorts = {row.split(" ")[-1] for row in rows if row.split(" ")[0] in ("go", "call", "if")}
    for name in named("c", "d", "r", own=True):
        head.append(("weak " if chance.random() < 0.2 and name not in shorts else "told ") + name)
    if any(row.endswith(" zz") for row in rows):
        head.append("soft zz")
    return "\n".join(head + rows)


def chance_programs(seed, many, parts=2):
    """So many (texts, entry): texts of one part each, all of which link."""
    chance = random.Random(seed)
    found = []
    while len(found) < many:
        texts = [part_text(chance, number, parts) for number in range(parts)]
        entry = f"c{'abcdef'[chance.randrange(parts)]}x"
        try:
            link([assemble(text) for text in texts], entry)
        except Beyond:
            continue
        found.append((texts, entry))
    return found
