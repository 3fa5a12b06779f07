"""Benches put together by chance, and all that a bench tells."""

from byteround.assembling import assemble
from byteround.bench import Bench
from byteround.deeds import SLOTS
from byteround.patches import Patch

TEXTS = (
    "part a\ntold x\ncode m 1\nx:\nset a 5\ncall f\nhalt", "part b\ntold f\ncode m 1\nf:\nout a\nback",
    "part a\ntold x\ncode m 1\nx:\nset a 6\ncall f\nhalt", "part a\ntold x\ncode m 2\nx:\nhalt\ndata n 1\nbytes 3", "part", "")
WANTED = {
    "text": ("text",), "unit": ("unit",), "row": ("row",), "image": ("image",), "chart": ("chart",), "patch": ("patch",),
    "written": ("unit", "image"), "fitted": ("row", "image"), "units": ("unit",), "shelves": ("shelf",)}


def seen(bench):
    """All that the bench tells, as a text that tells each thing apart."""
    return [
        (name, bench.kind_of(name), shown(bench.thing_of(name)), shown(bench.deed_of(name)), bench.number_of(name), bench.made_of(name),
         bench.makes(name), name in bench.stale()) for name in bench.names()]


def shown(thing):
    """The thing by what it is made of."""
    if isinstance(thing, (list, tuple)):
        return [type(thing).__name__] + [shown(part) for part in thing]
    if hasattr(thing, "__dict__"):
        return [type(thing).__name__] + [(name, shown(part)) for name, part in sorted(vars(thing).items())]
    return thing


def name_for(chance, bench, slot):
    """A name on the bench that may stand in the slot, mostly."""
    fitting = [name for name in bench.names() if bench.kind_of(name) in WANTED[slot]]
    if fitting and chance.random() < 0.95:
        return chance.choice(fitting)
    return chance.choice(bench.names() + ["zz"])


def chance_thing(chance):
    pick = chance.randrange(6)
    if pick < 3:
        return chance.choice(TEXTS)
    if pick == 3:
        return tuple(chance.randrange(3) for _ in range(chance.randrange(4)))
    if pick == 4:
        return Patch(3, [(0, (), (chance.randrange(3),))])
    return assemble(chance.choice(TEXTS[:4]))


def chance_deed(chance, bench):
    """A deed of what there is, that may be refused all the same."""
    word = chance.choice([word for word in SLOTS for _ in range(3 if word in ("put", "assemble", "link", "fit") else 1)])
    deed = [word, chance.choice("abcdefghijklmnop")]
    for slot in SLOTS[word]:
        if slot == "thing":
            deed.append(chance_thing(chance))
        elif slot == "edition":
            deed.append(chance.choice((None, None, 1, 2, 3)))
        elif slot == "entry":
            deed.append(chance.choice("xxxf"))
        elif slot == "keep":
            deed.append(chance.choice(((), ("f",))))
        elif slot in ("units", "shelves"):
            deed.append(tuple(name_for(chance, bench, slot) for _ in range(chance.randrange(3 if slot == "units" else 2))))
        else:
            deed.append(name_for(chance, bench, slot))
    return tuple(deed)


def chance_bench(chance, many):
    """A bench on which so many doings were done, several at once and remakes among them."""
    bench = Bench()
    done = 0
    while done < many:
        pick = chance.random()
        try:
            if pick < 0.8:
                bench.do(chance_deed(chance, bench))
            elif pick < 0.9:
                bench.several([chance_deed(chance, bench) for _ in range(chance.randrange(3))])
            elif pick < 0.95 and bench.names():
                bench.remake(chance.choice(bench.names()))
            else:
                bench.remake_all()
            done += 1
        except Exception as refusal:
            if type(refusal).__module__ != "byteround.errors":
                raise
    return bench
