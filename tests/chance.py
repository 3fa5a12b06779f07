"""Units and images put together by chance, the same ones for the same seed."""

import random

from byteround.assembling import assemble
from byteround.errors import Wrong
from byteround.things import Unit

CODE = (
    "halt", "back", "out a", "out b", "in a", "push a", "push b", "pop c", "copy b a", "add a b", "less a c", "times b b",
    "walk p a", "turn q b", "load a p", "store b p", "same d", "move q p", "take q p", "keep p q", "goat q", "callat p",
    "none d q")
STEPS = (1, 1, 1, 2, 4, 8, 16)


def pick_code(chance, name):
    plus = chance.choice(("", "", "+1", "+3"))
    return chance.choice((
        f"go {name}", f"call {name}", f"if a {name}", f"point p {name}", f"point q {name}{plus}", f"go.long {name}",
        f"set a {chance.randrange(400)}", f"set.long b {chance.randrange(9)}", f"row {chance.randrange(3)}",
        chance.choice(CODE), chance.choice(CODE)))


def pick_data(chance, name):
    plus = chance.choice(("", "", "+1", "+3"))
    return chance.choice((
        "bytes 1 2 3", f"bytes {chance.randrange(256)}", f"held {name}{plus}", f"held {name}", "two 300 1", "zeros 3",
        f"row {chance.randrange(3)}"))


def pick_room(chance, name):
    return chance.choice(("leave 3", "leave 7", f"row {chance.randrange(3)}"))


PICKS = {"code": (pick_code, "halt"), "data": (pick_data, "bytes 9"), "room": (pick_room, "leave 2")}


def chance_text(chance, number, own, others, told=0.5, soft=0.5):
    """A text of one part, which may be none: its labels are of own, its holds of own and others.

    told, soft: how likely a label is told, a name that isn't one is soft.
    """
    own = list(own)
    chance.shuffle(own)
    labels, rows = [], []
    for k in range(chance.randrange(1, 4)):
        kind = chance.choice(("code", "code", "data", "room"))
        pick, last = PICKS[kind]
        items = [pick(chance, chance.choice(list(own) + labels * 3 + list(others))) for _ in range(chance.randrange(1, 9))]
        for _ in range(min(len(own), chance.randrange(3))):
            labels.append(own.pop())
            items.insert(chance.randrange(len(items) + 1), labels[-1] + ":")
        rows += [f"{kind} s{'abc'[k]} {chance.choice(STEPS)}", *items, last]
    head = [f"part p{'abcdefgh'[number]}"]
    for label in labels:
        pick = chance.random()
        if pick < told + 0.2:
            head.append(("told " if pick < told else "weak ") + label)
    held = {row.split(" ")[-1].split("+")[0] for row in rows if row.split(" ")[0].split(".")[0] in
            ("go", "call", "if", "point", "held")}
    head += [f"soft {name}" for name in sorted(held - set(labels)) if chance.random() < soft]
    return "\n".join(head + rows)


def names_of(number):
    return ["abcdefgh"[k] + "abcdefgh"[number] for k in range(8)]


def chance_unit(chance, number=0, many=1, told=0.5, soft=0.5):
    """A unit of one part, whose names may be those of so many numbers."""
    others = [name for k in range(many) for name in names_of(k) if k != number] + ["far"]
    while True:
        try:
            return assemble(chance_text(chance, number, names_of(number), others, told, soft))
        except Wrong:
            pass


def chance_units(seed, many):
    """So many units, of one part or several."""
    chance = random.Random(seed)
    units = []
    for _ in range(many):
        parts = [chance_unit(chance, k, 3).parts[0] for k in range(chance.choice((1, 1, 2, 3)))]
        units.append(Unit(parts))
    return units
