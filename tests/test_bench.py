"""[80] to [83]: things by names on a bench, made of one another, made anew, undone."""

import random
import unittest

from byteround.assembling import assemble
from byteround.bench import Bench
from byteround.carrying import carried, patched
from byteround.dumping import dump
from byteround.errors import (
    Circle, Misfit, NoBytes, NoDeed, NoEdition, NoEntry, NoThing, NothingDone, OtherImage, OtherKind, OtherProgram, TooGreat,
    Twice, Uncarried, Untold, Wrong)
from byteround.imagebytes import image_bytes
from byteround.linking import join, link
from byteround.machine import run
from byteround.patches import Patch, chained, merged, patch_between, turned_back
from byteround.shelves import shelf_bytes
from byteround.stripping import Chart, stripped
from byteround.unitbytes import unit_bytes
from tests.anything import Number, Row, Rows, Text, anything, is_exact
from tests.samples import code_image
from tests.benches import chance_bench, chance_deed, seen

MAIN = "part a\ntold x\ncode m 1\nx:\nset a 5\ncall f\nhalt"
MAIN_SIX = MAIN.replace("5", "6")
MORE = "part b\ntold f\ncode m 1\nf:\nout a\nback"
UNIT, OTHER = assemble(MAIN), assemble(MORE)
IMAGE = link([UNIT, OTHER], "x")


def bench_of(*deeds):
    bench = Bench()
    for deed in deeds:
        bench.do(deed)
    return bench


def full():
    """A bench with a thing of each kind."""
    return bench_of(
        ("put", "t", MAIN), ("put", "u", UNIT), ("put", "s", [OTHER]), ("put", "i", IMAGE), ("put", "c", stripped(IMAGE)[1]),
        ("put", "p", Patch(3, [(0, (1,), (2,))])), ("put", "r", (1, 2, 3)))


class Case(unittest.TestCase):
    def refused(self, refusal, bench, deed):
        """The deed is refused so, alone and as one of several; nothing is changed."""
        before = seen(bench)
        with self.assertRaises(type(refusal), msg=deed) as caught:
            bench.do(deed)
        self.assertEqual(caught.exception, refusal, deed)
        with self.assertRaises(type(refusal), msg=deed) as caught:
            bench.several([("put", "fresh", "a"), deed])
        if isinstance(refusal, NoDeed):
            refusal = NoDeed(1)
        self.assertEqual(caught.exception, refusal, deed)
        self.assertEqual(seen(bench), before)

    def makes(self, bench, deed, thing, kind):
        self.assertIsNone(bench.do(deed))
        name = deed[1]
        self.assertEqual(bench.thing_of(name), thing)
        self.assertIs(type(bench.thing_of(name)), type(thing))
        self.assertEqual((bench.kind_of(name), bench.deed_of(name)), (kind, deed))
        self.assertTrue(is_exact(bench.deed_of(name)[:2]))


class Deeds(Case):
    def test_put_of_each_kind(self):
        bench = Bench()
        for kind, thing in (("text", MAIN), ("text", ""), ("unit", UNIT), ("shelf", [UNIT, OTHER]), ("shelf", []), ("image", IMAGE),
                            ("chart", Chart(3, None)), ("chart", Chart(3, ())), ("patch", Patch(0)), ("row", ()), ("row", (0, 255))):
            self.makes(bench, ("put", "n", thing), thing, kind)
            self.makes(bench, ("put", "abcdefgh", thing), thing, kind)
        self.assertEqual(bench.names(), ["abcdefgh", "n"])

    def test_each_deed(self):
        bench = full()
        self.makes(bench, ("assemble", "n", "t"), UNIT, "unit")
        self.makes(bench, ("dump", "n", "u"), dump(UNIT), "text")
        for edition in (None, 2, 3):
            self.makes(bench, ("write", "n", "u", edition), unit_bytes(UNIT, edition=edition), "row")
        self.makes(bench, ("write", "ub", "u", 3), unit_bytes(UNIT, edition=3), "row")
        for edition in (None, 3):
            self.makes(bench, ("write", "ib", "i", edition), image_bytes(IMAGE, edition=edition), "row")
        self.makes(bench, ("write", "sb", "s", None), shelf_bytes([OTHER]), "row")
        self.makes(bench, ("unit", "n", "ub"), UNIT, "unit")
        self.makes(bench, ("image", "n", "ib"), IMAGE, "image")
        self.makes(bench, ("shelved", "n", "sb"), [OTHER], "shelf")
        self.makes(bench, ("put", "v", OTHER), OTHER, "unit")
        self.makes(bench, ("shelf", "n", ("u", "v", "u")), [UNIT, OTHER, UNIT], "shelf")
        self.makes(bench, ("shelf", "n", ()), [], "shelf")
        self.makes(bench, ("join", "n", ("v", "u")), join([OTHER, UNIT]), "unit")
        self.makes(bench, ("link", "n", ("u",), ("s",), "x", ()), IMAGE, "image")
        self.makes(bench, ("link", "n", ("v", "u"), (), "x", ("f", "x")), link([OTHER, UNIT], "x", keep=("f", "x")), "image")
        self.makes(bench, ("link", "n", (), ("s",), "f", ()), link([OTHER], "f"), "image")
        bare, chart = stripped(IMAGE)
        self.makes(bench, ("strip", "b", "i"), bare, "image")
        self.makes(bench, ("chart", "n", "i"), chart, "chart")
        self.makes(bench, ("noted", "n", "b", "c"), IMAGE, "image")

    def test_each_deed_of_patches(self):
        bench = full()
        self.makes(bench, ("put", "q", (1, 9, 3)), (1, 9, 3), "row")
        between = patch_between((1, 2, 3), (1, 9, 3))
        self.makes(bench, ("patch", "d", "r", "q"), between, "patch")
        self.makes(bench, ("fit", "n", "r", "d"), (1, 9, 3), "row")
        self.makes(bench, ("turn", "n", "d"), turned_back(between), "patch")
        self.makes(bench, ("chain", "n", "d", "p"), chained(between, Patch(3, [(0, (1,), (2,))])), "patch")
        self.makes(bench, ("merge", "n", "p", "d"), merged(between, Patch(3, [(0, (1,), (2,))])), "patch")
        # Of an image's data.
        patch = Patch(len(IMAGE.data), [(1, (5,), (7,))])
        self.makes(bench, ("put", "w", patch), patch, "patch")
        self.makes(bench, ("fit", "n", "i", "w"), patched(IMAGE, patch), "image")
        turned = link([OTHER, UNIT], "x")
        self.makes(bench, ("put", "j", turned), turned, "image")
        self.makes(bench, ("carry", "n", "w", "i", "j"), carried(patch, IMAGE, turned), "patch")

    def test_drop(self):
        bench = full()
        self.assertIsNone(bench.do(("drop", "t")))
        self.assertNotIn("t", bench.names())
        self.refused(NoThing("t"), bench, ("drop", "t"))
        self.refused(NoThing("zz"), Bench(), ("drop", "zz"))

    def test_in_the_place_of_another_kind(self):
        bench = full()
        self.makes(bench, ("put", "t", (1, 2)), (1, 2), "row")
        self.refused(OtherKind("t"), bench, ("assemble", "n", "t"))

    def test_what_is_put_and_told_is_a_copy(self):
        units = [UNIT]
        bench = bench_of(("put", "s", units))
        units.append(OTHER)
        self.assertEqual(bench.thing_of("s"), [UNIT])
        bench.thing_of("s").append(OTHER)
        bench.deed_of("s")[2].append(OTHER)
        self.assertEqual((bench.thing_of("s"), bench.deed_of("s")), ([UNIT], ("put", "s", [UNIT])))
        deeds = [("put", "t", "a"), ("shelf", "v", ())]
        bench.several(deeds)
        bench.thing_of("v").append(5)
        self.assertEqual(deeds, [("put", "t", "a"), ("shelf", "v", ())])
        self.assertEqual(bench.thing_of("v"), [])
        bench.undo()
        bench.undo()
        bench.redo()
        self.assertEqual(bench.thing_of("s"), [UNIT])
        for told in (bench.names(), bench.stale(), bench.made_of("s"), bench.makes("s"), bench.remake("s"), bench.remake_all()):
            told.append("z")
        self.assertEqual((bench.names(), bench.stale(), bench.made_of("s"), bench.makes("s"), bench.remake("s")), (["s"], [], [], [], []))

    def test_exactly_the_builtin_kinds(self):
        bench = Bench()
        bench.several(Rows([Row(("put", Text("t"), Text(MAIN))), ("put", "r", Row((Number(1),))), ("put", "s", Rows([UNIT])),
                            Row((Text("assemble"), Text("u"), Text("t"))), ("write", "w", "u", Number(3)),
                            ("join", "j", Row((Text("u"),)))]))
        for name in bench.names():
            thing = bench.thing_of(name)
            self.assertTrue(name == "s" or not isinstance(thing, (str, tuple)) or is_exact(thing))
            self.assertTrue(is_exact(bench.deed_of(name)[:2]))
            self.assertIs(type(bench.deed_of(name)), tuple)
        self.assertIs(type(bench.thing_of("s")), list)
        self.assertTrue(is_exact([bench.deed_of("w"), bench.deed_of("j"), bench.deed_of("u"), bench.names()]))
        self.assertTrue(is_exact(bench.thing_of("t")))


class NoDeeds(Case):
    def test_of_anything(self):
        bench = full()
        for thing in anything():
            self.refused(NoDeed(0), bench, thing)
            self.refused(NoDeed(0), bench, (thing, "n"))
            self.refused(NoDeed(0), bench, (thing, "n", "t"))
            if thing not in ("a", "abc"):
                self.refused(NoDeed(0), bench, ("drop", thing))
                self.refused(NoDeed(0), bench, ("assemble", thing, "t"))
                self.refused(NoDeed(0), bench, ("assemble", "n", thing))
                self.refused(NoDeed(0), bench, ("link", "n", ("u",), ("s",), thing, ()))
            if thing not in ((), None, 1):
                self.refused(NoDeed(0), bench, ("write", "n", "u", thing))
                self.refused(NoDeed(0), bench, ("join", "n", thing))
                self.refused(NoDeed(0), bench, ("link", "n", thing, ("s",), "x", ()))
                self.refused(NoDeed(0), bench, ("link", "n", ("u",), thing, "x", ()))
                self.refused(NoDeed(0), bench, ("link", "n", ("u",), ("s",), "x", thing))
        for thing in (None, True, 5, (256,), (True,), (None,), [None], [5, UNIT], [IMAGE], (UNIT,), {}, UNIT.parts[0], NoDeed(0), bench):
            self.refused(NoDeed(0), bench, ("put", "n", thing))

    def test_too_long_too_short_other_words(self):
        bench = full()
        good = (
            ("put", "n", "a"), ("assemble", "n", "t"), ("dump", "n", "u"), ("write", "n", "u", None), ("unit", "n", "r"), ("image", "n", "r"),
            ("shelved", "n", "r"), ("shelf", "n", ("u",)), ("join", "n", ("u",)), ("link", "n", ("u",), ("s",), "x", ()), ("strip", "n", "i"),
            ("chart", "n", "i"), ("noted", "n", "i", "c"), ("patch", "n", "r", "r"), ("fit", "n", "r", "p"), ("turn", "n", "p"),
            ("chain", "n", "p", "p"), ("merge", "n", "p", "p"), ("carry", "n", "p", "i", "i"), ("drop", "t"))
        for deed in good:
            self.refused(NoDeed(0), bench, deed[:-1])
            self.refused(NoDeed(0), bench, deed + ("t",))
            self.refused(NoDeed(0), bench, deed + (None,))
            self.refused(NoDeed(0), bench, list(deed))
            self.refused(NoDeed(0), bench, (deed[0].upper(),) + deed[1:])
            for k in range(1, len(deed)):
                if deed[0] != "put" or k == 1:
                    # A list in the place of a name.
                    self.refused(NoDeed(0), bench, deed[:k] + ([deed[k]],) + deed[k + 1:])
                    self.refused(NoDeed(0), bench, deed[:k] + ("A",) + deed[k + 1:])
        for word in ("shift", "shifted", "", "puts", "remake", "undo", "note", "text", "row"):
            self.refused(NoDeed(0), bench, (word, "n", "t"))
            self.refused(NoDeed(0), bench, (word, "n"))

    def test_editions(self):
        for edition in (0, 4, -1, True, False, "1", "-", (1,)):
            self.refused(NoDeed(0), full(), ("write", "n", "u", edition))
            self.refused(NoDeed(0), full(), ("write", "n", "zz", edition))

    def test_a_join_of_no_names(self):
        self.refused(NoDeed(0), full(), ("join", "n", ()))

    def test_names_in_tuples(self):
        for names in (("u", "A"), ("u", ""), ("", ), (None,), (("u",),), (True,), ("abcdefghi",)):
            for deed in (("join", "n", names), ("shelf", "n", names), ("link", "n", names, (), "x", ()),
                         ("link", "n", ("u",), names, "x", ()), ("link", "n", ("u",), (), "x", names)):
                self.refused(NoDeed(0), full(), deed)

    def test_several(self):
        bench = full()
        before = seen(bench)
        for thing in anything() + [(("drop", "t"),), "drop", {0: ("drop", "t")}]:
            if not isinstance(thing, list):
                with self.assertRaises(NoDeed) as caught:
                    bench.several(thing)
                self.assertEqual(caught.exception, NoDeed(0))
        for deeds, at in (([("drop", "t"), None], 1), ([("drop", "zz"), ("assemble", "n", "r"), ("join", "n", ())], 2), ([5, 6], 0),
                          ([("drop", "zz"), ("put", "n", None), ()], 1), ([[]], 0), ([("drop", "t")] * 3 + [("drop",)], 3)):
            with self.assertRaises(NoDeed) as caught:
                bench.several(deeds)
            self.assertEqual(caught.exception, NoDeed(at))
        self.assertEqual(seen(bench), before)


class Refused(Case):
    def test_no_thing_then_other_kind_then_circle(self):
        bench = full()
        self.refused(NoThing("zz"), bench, ("assemble", "n", "zz"))
        self.refused(NoThing("zz"), bench, ("assemble", "zz", "zz"))
        self.refused(NoThing("zy"), bench, ("chain", "n", "t", "zy"))
        self.refused(NoThing("zy"), bench, ("link", "n", ("t", "u"), ("u", "zy", "zz"), "x", ()))
        self.refused(NoThing("zz"), bench, ("link", "n", ("t", "zz"), ("u", "zy"), "x", ()))
        self.refused(NoThing("zz"), bench, ("carry", "t", "t", "t", "zz"))
        self.refused(OtherKind("t"), bench, ("carry", "t", "t", "t", "i"))
        self.refused(OtherKind("r"), bench, ("join", "u", ("u", "r", "t")))
        self.refused(Circle("u"), bench, ("join", "u", ("u", "u")))
        # Names of labels are no things.
        self.refused(NoEntry("q"), bench, ("link", "n", ("u",), ("s",), "q", ()))
        self.refused(NoEntry("t"), bench, ("link", "n", ("u",), ("s",), "x", ("t",)))

    def test_other_kinds_of_each_deed(self):
        due = {
            "assemble": ("t",), "dump": ("u",), "unit": ("r",), "image": ("r",), "shelved": ("r",), "strip": ("i",), "chart": ("i",),
            "noted": ("i", "c"), "patch": ("r", "r"), "turn": ("p",), "chain": ("p", "p"), "merge": ("p", "p"), "carry": ("p", "i", "i")}
        for word, names in due.items():
            for k in range(len(names)):
                for other in "tusicpr":
                    if other != names[k]:
                        self.refused(OtherKind(other), full(), (word, "n", *names[:k], other, *names[k + 1:]))
        for other in "tscpr":
            self.refused(OtherKind(other), full(), ("join", "n", ("u", other)))
            self.refused(OtherKind(other), full(), ("shelf", "n", (other, "u")))
            self.refused(OtherKind(other), full(), ("link", "n", ("u", other), ("s",), "x", ()))
        for other in "tuicpr":
            self.refused(OtherKind(other), full(), ("link", "n", ("u",), ("s", other), "x", ()))
        for other in "tcpr":
            for edition in (None, 1, 2, 3):
                self.refused(OtherKind(other), full(), ("write", "n", other, edition))
        for other in "tuscp":
            self.refused(OtherKind(other), full(), ("fit", "n", other, "p"))
        for other in "tusicr":
            self.refused(OtherKind(other), full(), ("fit", "n", "r", other))
            self.refused(OtherKind(other), full(), ("fit", "n", "i", other))

    def test_a_shelf_in_a_told_edition(self):
        for edition in (1, 2, 3):
            self.refused(OtherKind("s"), full(), ("write", "n", "s", edition))
            self.refused(OtherKind("s"), full(), ("write", "s", "s", edition))
            self.refused(NoThing("zz"), full(), ("write", "n", "zz", edition))

    def test_circle(self):
        bench = full()
        for deed in (("assemble", "t", "t"), ("dump", "u", "u"), ("shelf", "u", ("u",)), ("fit", "r", "r", "p"), ("fit", "p", "r", "p"),
                     ("link", "s", ("u",), ("s",), "x", ()), ("link", "u", ("u",), ("s",), "q", ())):
            self.refused(Circle(deed[1]), bench, deed)
        bench.several([("assemble", "b", "t"), ("dump", "d", "b"), ("assemble", "e", "d")])
        self.refused(Circle("t"), bench, ("dump", "t", "e"))
        self.refused(Circle("b"), bench, ("assemble", "b", "d"))
        self.refused(Circle("t"), bench, ("dump", "t", "b"))
        # Through others as they stand, be the name there or not.
        bench.do(("drop", "t"))
        self.refused(Circle("t"), bench, ("dump", "t", "e"))
        bench.do(("put", "b", UNIT))
        self.refused(Circle("b"), bench, ("shelf", "b", ("e",)))
        bench.do(("dump", "t", "e"))
        self.assertEqual(bench.made_of("t"), ["b", "d", "e"])
        self.refused(Circle("d"), bench, ("assemble", "d", "t"))
        # What is gone leads no further.
        bench.do(("drop", "d"))
        bench.do(("assemble", "b", "t"))
        self.assertEqual(bench.made_of("b"), ["d", "e", "t"])

    def test_as_the_tools_refuse(self):
        bench = full()
        bench.several([
            ("put", "bad", "part a\ntold x"), ("put", "v", OTHER), ("put", "w", (85, 1, 0)), ("put", "q", Patch(4)), ("put", "o", Chart(5, None)),
            ("put", "n", code_image(0)), ("put", "f", Patch(len(IMAGE.data), [(3, (0,), (1,))])), ("put", "g", Patch(3, [(0, (1,), (7,))])),
            ("put", "k", join([UNIT, OTHER]))])
        for deed, refusal in (
                (("assemble", "z", "bad"), Wrong(2, 1)), (("write", "z", "k", 1), NoEdition(1, "parts")), (("write", "z", "i", 1), NoEdition(1, "notes")),
                (("write", "z", "k", 2), NoEdition(2, "parts")), (("unit", "z", "w"), NoBytes(2)), (("image", "z", "w"), NoBytes(0)),
                (("shelved", "z", "w"), NoBytes(0)), (("link", "z", ("u", "u"), (), "x", ()), Twice("x", 0, 1)),
                (("link", "z", ("u",), (), "x", ()), Untold("f", 0)), (("link", "z", (), (), "x", ()), NoEntry("x")),
                (("noted", "z", "i", "o"), OtherImage(5)), (("fit", "z", "r", "q"), Misfit(3)), (("fit", "z", "i", "q"), Misfit(4)),
                (("chain", "z", "p", "p"), Misfit(0)), (("merge", "z", "p", "q"), Misfit(3)), (("carry", "z", "f", "i", "n"), OtherProgram([])),
                (("carry", "z", "f", "i", "i"), Uncarried(3)), (("carry", "z", "p", "i", "n"), Misfit(0))):
            self.refused(refusal, bench, deed)
            # In the place of a thing, too.
            self.refused(refusal, bench, deed[:1] + ("t",) + deed[2:])
        great = "part a\ntold x\ncode m 1\nx:\n" + "\n".join(f"point p {k}" for k in "abcdef") + "\nhalt\n"
        great += "\n".join(f"room r{k} 1\n{k}:\nleave 4000" for k in "abcdef")
        more = great.replace("part a\ntold x\n", "part b\ntold y\n").replace("x:\n", "y:\n")
        bench.several([("put", "ga", great.replace("halt\n", "call y\nhalt\n")), ("put", "gb", more), ("assemble", "ha", "ga"), ("assemble", "hb", "gb")])
        self.refused(TooGreat(len(link([bench.thing_of("hb")], "y")) * 2 + 3), bench, ("link", "z", ("ha", "hb"), (), "x", ()))

    def test_several_all_or_none(self):
        bench = full()
        before = seen(bench)
        with self.assertRaises(Misfit):
            bench.several([("drop", "t"), ("put", "n", (1,)), ("fit", "m", "n", "p"), ("drop", "u")])
        with self.assertRaises(NoThing) as caught:
            bench.several([("drop", "t"), ("assemble", "n", "t"), ("fit", "m", "n", "p")])
        self.assertEqual(caught.exception, NoThing("t"))
        self.assertEqual(seen(bench), before)
        # Later ones may take what earlier ones make.
        bench.several([("put", "t", MORE), ("assemble", "n", "t"), ("drop", "t")])
        self.assertEqual((bench.thing_of("n"), "t" in bench.names(), bench.stale()), (OTHER, False, ["n"]))

    def test_several_of_none(self):
        bench = full()
        bench.undo()
        before = seen(bench)
        self.assertIsNone(bench.several([]))
        self.assertEqual(seen(bench), before)
        bench.redo()
        self.assertEqual(bench, full())
        with self.assertRaises(NothingDone):
            empty = Bench()
            empty.several([])
            empty.undo()


class Numbers(Case):
    def test_each_new_thing_has_the_next(self):
        bench = full()
        self.assertEqual([bench.number_of(name) for name in "tusicpr"], list(range(7)))
        bench.do(("assemble", "n", "t"))
        self.assertEqual(bench.number_of("n"), 7)

    def test_an_equal_one_keeps_it(self):
        bench = full()
        bench.do(("put", "t", MAIN))
        bench.do(("put", "r", (1, 2, 3)))
        bench.do(("assemble", "u", "t"))
        self.assertEqual((bench.number_of("t"), bench.number_of("r"), bench.number_of("u")), (0, 6, 1))
        bench.do(("put", "n", "a"))
        self.assertEqual(bench.number_of("n"), 7)
        # Another thing, a thing of another kind, one that was away.
        bench.do(("put", "t", MORE))
        self.assertEqual(bench.number_of("t"), 8)
        bench.do(("put", "t", MAIN))
        self.assertEqual(bench.number_of("t"), 9)
        bench.several([("put", "a", ()), ("put", "a", []), ("put", "a", ""), ("put", "a", ())])
        self.assertEqual(bench.number_of("a"), 13)
        bench.several([("drop", "a"), ("put", "a", ())])
        self.assertEqual(bench.number_of("a"), 14)
        # Under another name.
        bench.do(("put", "b", ()))
        self.assertEqual(bench.number_of("b"), 15)

    def test_of_equal_charts_and_patches(self):
        bench = full()
        bench.several([("put", "c", Chart(3, [(0, "a", "b", (), ((0, 0),))])), ("put", "p", Patch(3))])
        bench.several([("put", "c", Chart(3, ((0, "a", "b", (), ((0, 0),)),))), ("put", "p", Patch(3, []))])
        self.assertEqual((bench.number_of("c"), bench.number_of("p")), (7, 8))
        bench.do(("put", "c", Chart(3, None)))
        self.assertEqual(bench.number_of("c"), 9)


class Stale(Case):
    def chain(self):
        """a text, made of it units, texts, units, each of the last."""
        return bench_of(("put", "t", MAIN), ("assemble", "ub", "t"), ("dump", "tc", "ub"), ("assemble", "ud", "tc"), ("put", "w", MORE),
                        ("assemble", "v", "w"), ("shelf", "s", ("v",)), ("link", "i", ("ud",), ("s",), "x", ()))

    def test_a_changed_text_makes_stale_just_what_is_made_of_it(self):
        bench = self.chain()
        self.assertEqual(bench.stale(), [])
        bench.do(("put", "t", MAIN_SIX))
        self.assertEqual(bench.stale(), ["i", "tc", "ub", "ud"])
        bench.do(("put", "w", MORE + "\nout b"))
        self.assertEqual(bench.stale(), ["i", "s", "tc", "ub", "ud", "v"])

    def test_equal_ones_make_nothing_stale(self):
        bench = self.chain()
        bench.do(("put", "t", MAIN))
        self.assertEqual(bench.stale(), [])
        bench.do(("put", "t", MAIN_SIX))
        bench.do(("put", "t", MAIN))
        # It is equal to the first, but in the place of another.
        self.assertEqual(bench.stale(), ["i", "tc", "ub", "ud"])

    def test_dropped_and_of_another_kind(self):
        bench = self.chain()
        bench.do(("drop", "v"))
        self.assertEqual(bench.stale(), ["i", "s"])
        bench.do(("put", "v", OTHER))
        self.assertEqual(bench.stale(), ["i", "s"])
        bench.do(("put", "v", (1, 2)))
        self.assertEqual(bench.stale(), ["i", "s"])
        with self.assertRaises(OtherKind) as caught:
            bench.remake("s")
        self.assertEqual(caught.exception, OtherKind("v"))

    def test_not_stale_any_more(self):
        bench = self.chain()
        bench.do(("put", "t", MAIN + "\nnote"))
        self.assertEqual(bench.stale(), ["i", "tc", "ub", "ud"])
        # An equal unit comes of it: what is made of that is as it was.
        self.assertEqual(bench.remake("ub"), ["ub"])
        self.assertEqual(bench.stale(), [])
        bench.do(("put", "t", MAIN_SIX))
        bench.do(("put", "ub", OTHER))
        self.assertEqual(bench.stale(), ["i", "tc", "ud"])
        bench.do(("dump", "tc", "ub"))
        self.assertEqual(bench.stale(), ["i", "ud"])

    def test_put_ones_never_are(self):
        bench = self.chain()
        bench.do(("put", "ub", UNIT))
        bench.do(("drop", "t"))
        self.assertEqual(bench.stale(), [])

    def test_one_named_twice(self):
        bench = bench_of(("put", "t", MAIN), ("assemble", "u", "t"), ("join", "j", ("u", "u")))
        bench.do(("put", "t", MORE))
        self.assertEqual(bench.remake("j"), ["u", "j"])
        self.assertEqual(bench.thing_of("j"), join([OTHER, OTHER]))


class Remake(Case):
    def web(self):
        """b of a and z; c of b; d of z and b; y a text's unit that nothing is made of."""
        return bench_of(
            ("put", "ta", MAIN), ("put", "tz", MORE), ("assemble", "z", "tz"), ("assemble", "a", "ta"), ("join", "b", ("z", "a")),
            ("shelf", "c", ("b",)), ("shelf", "d", ("z", "b")), ("link", "e", ("b",), ("c", "d"), "x", ()))

    def changed(self):
        bench = self.web()
        bench.several([("put", "ta", MAIN_SIX), ("put", "tz", MORE.replace("out a", "out b"))])
        self.assertEqual(bench.stale(), ["a", "b", "c", "d", "e", "z"])
        return bench

    def test_the_order(self):
        self.assertEqual(self.changed().remake("a"), ["a"])
        self.assertEqual(self.changed().remake("b"), ["z", "a", "b"])
        self.assertEqual(self.changed().remake("c"), ["z", "a", "b", "c"])
        self.assertEqual(self.changed().remake("d"), ["z", "a", "b", "d"])
        self.assertEqual(self.changed().remake("e"), ["z", "a", "b", "c", "d", "e"])
        self.assertEqual(self.changed().remake_all(), ["a", "z", "b", "c", "d", "e"])
        bench = self.changed()
        bench.remake("a")
        self.assertEqual(bench.stale(), ["b", "c", "d", "e", "z"])
        self.assertEqual(bench.remake_all(), ["z", "b", "c", "d", "e"])
        self.assertEqual(bench.remake_all(), [])

    def test_as_made_from_nothing(self):
        bench = self.changed()
        bench.remake_all()
        self.assertEqual(bench.stale(), [])
        fresh = bench_of(*[bench.deed_of(name) for name in ("ta", "tz", "z", "a", "b", "c", "d", "e")])
        for name in bench.names():
            self.assertEqual(bench.thing_of(name), fresh.thing_of(name))
            self.assertEqual(bench.deed_of(name), self.web().deed_of(name) if len(name) == 1 else fresh.deed_of(name))
        self.assertEqual(run(bench.thing_of("e"))[0], run(fresh.thing_of("e"))[0])

    def test_not_stale_or_put(self):
        bench = self.changed()
        before = seen(bench)
        self.assertEqual((bench.remake("ta"), bench.remake("tz")), ([], []))
        self.assertEqual(self.web().remake("e"), [])
        self.assertEqual(self.web().remake_all(), [])
        self.assertEqual(seen(bench), before)

    def test_all_that_were_stale_when_it_was_asked(self):
        # The unit comes out equal: what is made of it is remade all the same.
        bench = self.web()
        bench.do(("put", "ta", MAIN + "\nnote"))
        self.assertEqual(bench.remake_all(), ["a", "b", "c", "d", "e"])
        number = bench.number_of("e")
        bench.do(("put", "ta", MAIN))
        self.assertEqual(bench.remake("b"), ["a", "b"])
        self.assertEqual((bench.stale(), bench.number_of("e")), ([], number))

    def test_refused_nothing_is_changed(self):
        bench = self.changed()
        bench.do(("put", "ta", "part a\ntold x"))
        before = seen(bench)
        for function in (bench.remake_all, lambda: bench.remake("b"), lambda: bench.remake("e")):
            with self.assertRaises(Wrong) as caught:
                function()
            self.assertEqual(caught.exception, Wrong(2, 1))
            self.assertEqual(seen(bench), before)
        self.assertEqual(bench.remake("z"), ["z"])

    def test_the_first_refusal_in_the_order(self):
        bench = self.web()
        bench.several([("put", "ta", "part a\ntold x"), ("drop", "tz")])
        # By names a, whose text is none, goes ahead; of b's deed z does.
        with self.assertRaises(Wrong):
            bench.remake_all()
        with self.assertRaises(NoThing) as caught:
            bench.remake("b")
        self.assertEqual(caught.exception, NoThing("tz"))
        bench.do(("drop", "z"))
        with self.assertRaises(Wrong):
            bench.remake("b")
        bench.do(("put", "ta", MAIN))
        with self.assertRaises(NoThing) as caught:
            bench.remake("b")
        self.assertEqual(caught.exception, NoThing("z"))
        with self.assertRaises(NoThing) as caught:
            bench.remake("z")
        self.assertEqual(caught.exception, NoThing("z"))

    def test_one_deed_for_undo(self):
        bench = self.changed()
        before = seen(bench)
        bench.remake("e")
        after = seen(bench)
        bench.undo()
        self.assertEqual(seen(bench), before)
        bench.redo()
        self.assertEqual(seen(bench), after)


class Told(Case):
    def test_names_and_what_each_is(self):
        self.assertEqual(Bench().names(), [])
        bench = full()
        self.assertEqual(bench.names(), ["c", "i", "p", "r", "s", "t", "u"])
        self.assertEqual([bench.kind_of(name) for name in bench.names()], ["chart", "image", "patch", "row", "shelf", "text", "unit"])
        self.assertEqual(bench.deed_of(name="t"), ("put", "t", MAIN))
        self.assertEqual((bench.kind_of(name="t"), bench.thing_of(name="t"), bench.number_of(name="t")), ("text", MAIN, 0))
        self.assertTrue(is_exact([bench.names(), bench.kind_of("t"), bench.number_of("t"), bench.stale()]))

    def test_made_of_and_makes(self):
        bench = Remake.web(self)
        self.assertEqual(bench.made_of("e"), ["a", "b", "c", "d", "ta", "tz", "z"])
        self.assertEqual(bench.made_of("b"), ["a", "ta", "tz", "z"])
        self.assertEqual((bench.made_of("ta"), bench.makes("e")), ([], []))
        self.assertEqual(bench.makes("tz"), ["b", "c", "d", "e", "z"])
        self.assertEqual(bench.makes("ta"), ["a", "b", "c", "d", "e"])
        self.assertEqual(bench.makes(name="c"), ["e"])
        # A name that isn't there is told, and leads no further.
        bench.do(("drop", "b"))
        self.assertEqual(bench.made_of("e"), ["b", "c", "d", "tz", "z"])
        self.assertEqual(bench.makes("ta"), ["a"])
        self.assertEqual(bench.makes("tz"), ["d", "e", "z"])
        # As they stand: another thing by now.
        bench.do(("put", "b", UNIT))
        self.assertEqual(bench.made_of(name="c"), ["b"])
        bench.do(("put", "z", UNIT))
        self.assertEqual(bench.made_of("d"), ["b", "z"])
        bench.do(("join", "b", ("a", "a")))
        self.assertEqual(bench.made_of("c"), ["a", "b", "ta"])

    def test_no_thing(self):
        bench = full()
        asks = (bench.kind_of, bench.thing_of, bench.deed_of, bench.number_of, bench.made_of, bench.makes, bench.remake)
        for name in ["zz", "T", "", "tt"] + anything():
            for ask in asks:
                with self.assertRaises(NoThing, msg=name) as caught:
                    ask(name)
                self.assertEqual(caught.exception, NoThing(name))
        bench.do(("assemble", "n", "t"))
        bench.do(("drop", "t"))
        for ask in asks:
            with self.assertRaises(NoThing):
                ask("t")


class UndoRedo(Case):
    def test_single_deeds(self):
        bench = Bench()
        states = [seen(bench)]
        for deed in (("put", "t", MAIN), ("assemble", "u", "t"), ("put", "t", MAIN_SIX), ("drop", "u"), ("drop", "t")):
            bench.do(deed)
            states.append(seen(bench))
        for state in states[-2::-1]:
            self.assertIsNone(bench.undo())
            self.assertEqual(seen(bench), state)
        with self.assertRaises(NothingDone) as caught:
            bench.undo()
        self.assertEqual(caught.exception, NothingDone())
        for state in states[1:]:
            self.assertIsNone(bench.redo())
            self.assertEqual(seen(bench), state)
        with self.assertRaises(NothingDone):
            bench.redo()
        self.assertEqual(seen(bench), states[-1])
        # To and fro, as often as asked.
        for _ in range(3):
            bench.undo()
            bench.undo()
            self.assertEqual(seen(bench), states[-3])
            bench.redo()
            self.assertEqual(seen(bench), states[-2])
            bench.redo()
            self.assertEqual(seen(bench), states[-1])

    def test_nothing_done(self):
        for function in (Bench().undo, Bench().redo, full().redo):
            with self.assertRaises(NothingDone):
                function()

    def test_several_at_once(self):
        bench = full()
        before = seen(bench)
        bench.several([("drop", "t"), ("put", "t", MORE), ("assemble", "n", "t")])
        after = seen(bench)
        bench.undo()
        self.assertEqual(seen(bench), before)
        bench.redo()
        self.assertEqual(seen(bench), after)

    def test_a_doing_that_changes_nothing(self):
        bench = full()
        bench.do(("put", "n", "a"))
        bench.undo()
        for same in (lambda: bench.do(("put", "t", MAIN)), lambda: bench.several([]), lambda: bench.several([("put", "r", (1, 2, 3))]),
                     lambda: bench.remake("t"), bench.remake_all):
            same()
        # What was taken back is still there; what is taken back next is the deed ahead.
        bench.redo()
        self.assertEqual(bench.thing_of("n"), "a")
        bench.do(("put", "t", MAIN))
        bench.undo()
        self.assertNotIn("n", bench.names())

    def test_a_refused_one(self):
        bench = full()
        bench.undo()
        for deed in (None, ("drop", "zz"), ("assemble", "n", "u"), ("dump", "u", "u"), ("unit", "n", "t")):
            with self.assertRaises((NoDeed, NoThing, OtherKind, Circle)):
                bench.do(deed)
        bench.redo()
        self.assertEqual(bench, full())

    def test_a_new_one_forgets_those_taken_back(self):
        bench = full()
        bench.undo()
        bench.do(("put", "n", "a"))
        with self.assertRaises(NothingDone):
            bench.redo()

    def test_the_deed_alone_may_be_another(self):
        # An equal thing, made otherwise: the number stays, the bench is another.
        bench = bench_of(("put", "t", MAIN), ("put", "u", UNIT))
        before = seen(bench)
        bench.do(("assemble", "u", "t"))
        self.assertEqual((bench.number_of("u"), bench.deed_of("u")), (1, ("assemble", "u", "t")))
        bench.undo()
        self.assertEqual(seen(bench), before)
        # Of things with other numbers.
        bench = bench_of(("put", "t", MAIN), ("assemble", "u", "t"), ("put", "t", MAIN + "\nnote"))
        bench.do(("assemble", "u", "t"))
        self.assertEqual((bench.number_of("u"), bench.stale()), (1, []))
        bench.undo()
        self.assertEqual(bench.stale(), ["u"])

    def test_the_next_number_comes_back(self):
        bench = full()
        bench.do(("put", "n", "a"))
        bench.do(("drop", "n"))
        bench.do(("put", "n", "a"))
        self.assertEqual(bench.number_of("n"), 8)
        for _ in range(3):
            bench.undo()
        bench.do(("put", "n", "a"))
        self.assertEqual(bench.number_of("n"), 7)

    def test_by_chance(self):
        chance = random.Random(3)
        for _ in range(12):
            bench = chance_bench(chance, 12)
            ahead = [seen(bench)]
            while True:
                try:
                    bench.undo()
                except NothingDone:
                    break
                ahead.append(seen(bench))
            self.assertEqual(bench, Bench())
            for state in ahead[-2::-1]:
                bench.redo()
                self.assertEqual(seen(bench), state)


class Equal(Case):
    def test_equal(self):
        self.assertTrue(Bench() == Bench())
        self.assertTrue(full() == full())
        self.assertFalse(full() == Bench())
        self.assertTrue(full() != Bench())
        bench = full()
        bench.do(("put", "n", "a"))
        self.assertFalse(bench == full())
        bench.undo()
        # What could be redone is no matter, nor what could be undone.
        self.assertTrue(bench == full())
        both = Bench()
        both.several([full().deed_of(name) for name in "tusicpr"])
        self.assertTrue(both == full())

    def test_unlike_in_one_thing(self):
        one = bench_of(("put", "t", MAIN), ("assemble", "u", "t"))
        for other in (
                bench_of(("put", "t", MAIN), ("assemble", "v", "t")), bench_of(("put", "t", MAIN_SIX), ("assemble", "u", "t")),
                bench_of(("put", "t", MAIN), ("put", "u", UNIT)), bench_of(("put", "u", UNIT), ("put", "t", MAIN), ("assemble", "u", "t")),
                bench_of(("put", "t", MAIN), ("assemble", "u", "t"), ("put", "n", "a"), ("drop", "n")),
                bench_of(("put", "t", MAIN), ("put", "s", MAIN), ("drop", "s"), ("assemble", "u", "t"))):
            self.assertFalse(one == other)
            self.assertFalse(other == one)
        # The number of what it was made of.
        notes = MAIN + "\nnote"
        two = bench_of(("put", "t", MAIN), ("assemble", "u", "t"), ("put", "t", notes))
        three = bench_of(("put", "t", MAIN), ("assemble", "u", "t"), ("put", "t", notes), ("assemble", "u", "t"))
        self.assertFalse(two == three)
        two.remake("u")
        self.assertTrue(two == three)
        # The thing alone: the text of which it was made is gone.
        five, six = (bench_of(("put", "t", one), ("assemble", "u", "t"), ("drop", "t")) for one in (MAIN, MORE))
        self.assertEqual((five.deed_of("u"), five.number_of("u")), (six.deed_of("u"), six.number_of("u")))
        self.assertFalse(five == six)
        # The number alone.
        five, six = bench_of(("put", "t", "a"), ("put", "u", "b")), bench_of(("put", "u", "b"), ("put", "t", "a"))
        self.assertEqual((five.deed_of("u"), five.deed_of("t")), (six.deed_of("u"), six.deed_of("t")))
        self.assertFalse(five == six)
        # The next number alone.
        four = bench_of(("put", "t", MAIN), ("put", "n", "a"), ("drop", "n"))
        self.assertFalse(four == bench_of(("put", "t", MAIN)))

    def test_equal_to_nothing_else(self):
        for thing in anything():
            self.assertFalse(Bench() == thing)


class ByChance(Case):
    def test_remade_all_is_as_made_from_nothing(self):
        chance = random.Random(4)
        some = 0
        for _ in range(60):
            bench = chance_bench(chance, 12)
            for name in [name for name in bench.names() if bench.kind_of(name) == "text" and bench.makes(name)]:
                if bench.deed_of(name)[0] == "put":
                    bench.do(("put", name, chance.choice((MAIN, MORE, MAIN_SIX))))
            for name in bench.stale():
                for source in bench.made_of(name):
                    if source not in bench.names():
                        bench.do(("drop", name))
                        break
            try:
                some += len(bench.remake_all()) > 0
            except Exception as refusal:
                self.assertTrue(type(refusal).__module__ == "byteround.errors", refusal)
                continue
            self.assertEqual(bench.stale(), [])
            fresh, waiting = Bench(), bench.names()
            while waiting:
                for name in waiting:
                    if not set(bench.made_of(name)) & set(waiting):
                        fresh.do(bench.deed_of(name))
                waiting = [name for name in waiting if name not in fresh.names()]
            self.assertEqual([fresh.thing_of(name) for name in fresh.names()], [bench.thing_of(name) for name in bench.names()])
        self.assertGreater(some, 3)

    def test_refused_deeds_change_nothing(self):
        chance = random.Random(5)
        bench = chance_bench(chance, 20)
        before = seen(bench)
        many = 0
        for _ in range(300):
            deeds = [chance_deed(chance, bench) for _ in range(3)]
            try:
                bench.several(deeds)
            except Exception as refusal:
                self.assertTrue(type(refusal).__module__ == "byteround.errors", refusal)
                self.assertEqual(seen(bench), before)
                many += 1
                continue
            bench.undo()
            self.assertEqual(seen(bench), before)
        self.assertGreater(many, 50)


if __name__ == "__main__":
    unittest.main()
