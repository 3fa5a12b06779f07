"""[90]: a bench that is told rows and answers with texts."""

import unittest

from byteround.assembling import assemble
from byteround.bench import Bench
from byteround.bytesrows import show_hex
from byteround.desk import Desk
from byteround.errors import (
    Circle, Misfit, NoAsk, NoBase, NoDeed, NoPlace, NothingDone, NoThing, OtherKind, Untold, Wrong)
from byteround.imagebytes import image_bytes
from byteround.linking import link
from byteround.machine import run
from byteround.shelves import shelf_bytes
from byteround.stripping import stripped
from byteround.things import Unit
from byteround.unitbytes import unit_bytes
from tests.anything import Text, anything
from tests.samples import image_of
from tests.benches import seen

MAIN = ("part a", "told x", "code m 1", "x:", "set a 5", "call f", "in b", "out b", "halt")
MORE = ("part b", "told f", "code m 4", "f:", "row 70", "out a", "back", "data n 8", "bytes 1 2")


def line(row):
    return show_hex(row).replace("\n", " ") or "-"


class Case(unittest.TestCase):
    def setUp(self):
        self.desk = Desk()

    def says(self, answer, *rows):
        """All rows are answered so."""
        for row in rows:
            told = self.desk.say(row)
            self.assertEqual(told, answer, row)
            self.assertIs(type(told), str)

    def refused(self, refusal, row):
        before = seen(self.desk.bench)
        with self.assertRaises(type(refusal), msg=row) as caught:
            self.desk.say(row)
        self.assertEqual(caught.exception, refusal, row)
        self.assertEqual(seen(self.desk.bench), before)

    def no_ask(self, *rows):
        for row in rows:
            self.refused(NoAsk(row), row)

    def write(self, name, *rows):
        self.says("ok", f"text {name}", *[f"row {name} {row}" for row in rows])

    def program(self):
        """Texts t, w; units u, v of them; an image i of both."""
        self.write("t", *MAIN)
        self.write("w", *MORE)
        self.says("ok", "assemble u t", "assemble v w", "link i u,v - x -")

    def thing(self, name):
        return self.desk.bench.thing_of(name)


class Texts(Case):
    def test_rows(self):
        self.says("ok", "text t")
        self.assertEqual(self.thing("t"), "")
        self.says("ok", "row t part a", "row t note", "row t ", "row t  two  blanks ", "row t row t ")
        self.assertEqual(self.thing("t"), "part a\nnote\n\n two  blanks \nrow t ")
        self.says("ok", "text t")
        self.assertEqual(self.thing("t"), "")
        self.assertEqual(self.desk.bench.deed_of("t"), ("put", "t", ""))

    def test_a_text_without_signs_is_filled(self):
        self.says("ok", "text t", "row t ", "row t ")
        self.assertEqual(self.thing("t"), "")
        self.says("ok", "row t a", "row t ", "row t ", "row t b")
        self.assertEqual(self.thing("t"), "a\n\n\nb")
        self.desk.bench.do(("put", "s", ""))
        self.says("ok", "row s x")
        self.assertEqual(self.thing("s"), "x")
        self.desk.bench.do(("put", "s", "\n"))
        self.says("ok", "row s x")
        self.assertEqual(self.thing("s"), "\n\nx")

    def test_a_row_of_a_text_that_is_made(self):
        self.program()
        self.says("ok", "dump d u", "row d note", "assemble n d")
        self.assertEqual(self.thing("n"), self.thing("u"))
        self.assertEqual(self.desk.bench.deed_of("d")[0], "put")

    def test_refused(self):
        self.refused(NoThing("t"), "row t a")
        self.says("ok", "bytes r 01")
        self.refused(OtherKind("r"), "row r a")
        self.says("ok", "text t")
        self.no_ask("text", "text ", "text T", "text t ", "text  t", " text t", "text t u", "text abcdefghi", "row t", "row", "row ", "row  t a",
                    "row T a", "row - a", "row t a\nb", "row t \n", "text\nt", "text t\n", "\n", "row abcdefghi a", "rows t a")

    def test_each_is_one_deed_put(self):
        self.says("ok", "text t", "row t a", "row t b", "bytes r 01 02", "bytes r -")
        for text, row in (("a\nb", (1, 2)), ("a\nb", None), ("a", None), ("", None)):
            self.says("ok", "undo")
            self.assertEqual(self.thing("t"), text)
            self.assertEqual(self.thing("r") if "r" in self.desk.bench.names() else None, row)
        self.says("ok", "undo")
        self.refused(NothingDone(), "undo")
        self.says("ok", *["redo"] * 5)
        self.refused(NothingDone(), "redo")
        self.assertEqual((self.thing("t"), self.thing("r")), ("a\nb", ()))


class Bytes(Case):
    def test_bytes(self):
        for row in ((), (0,), (255, 16), tuple(range(16)), tuple(range(17)), tuple(range(100))):
            self.says("ok", f"bytes r {line(row)}")
            self.assertEqual(self.thing("r"), row)
            self.assertEqual(self.desk.bench.kind_of("r"), "row")

    def test_no_bytes(self):
        self.no_ask("bytes", "bytes r", "bytes r ", "bytes R 01", "bytes r 1", "bytes r 001", "bytes r 01 ", "bytes r  01", "bytes r 01  02", "bytes r 01 2",
                    "bytes r 0A", "bytes r 0g", "bytes r --", "bytes r - -", "bytes r 01 -", "bytes r 01,02", "bytes - 01", "bytes r 0x01", "bytes r 01\t02")
        whole = show_hex(tuple(range(32)))
        self.assertIn("\n", whole)
        self.no_ask(f"bytes r {whole}")


class Deeds(Case):
    def test_each_deed(self):
        self.program()
        unit, other = assemble("\n".join(MAIN)), assemble("\n".join(MORE))
        image = link([unit, other], "x")
        self.assertEqual((self.thing("u"), self.thing("v"), self.thing("i")), (unit, other, image))
        self.says("ok", "shelf s v", "shelf e -", "shelf d v,u", "link j u s,e x f,x", "link k - s f -", "join b u,v,v", "dump c u", "write ub u 3",
                  "write ib i -", "write sb d -", "unit uc ub", "image ic ib", "shelved sc sb", "strip m i", "chart h i", "noted n m h")
        self.assertEqual((self.thing("s"), self.thing("e"), self.thing("d")), ([other], [], [other, unit]))
        self.assertEqual(self.thing("j"), link([unit], "x", shelves=[[other]], keep=("f", "x")))
        self.assertEqual(self.thing("k"), link([other], "f"))
        self.assertEqual(self.desk.bench.deed_of("j"), ("link", "j", ("u",), ("s", "e"), "x", ("f", "x")))
        self.assertEqual(self.desk.bench.deed_of("e"), ("shelf", "e", ()))
        self.assertEqual(self.desk.bench.deed_of("ib"), ("write", "ib", "i", None))
        self.assertEqual(self.thing("ub"), unit_bytes(unit, edition=3))
        self.assertEqual((self.thing("ib"), self.thing("sb")), (image_bytes(image), shelf_bytes([other, unit])))
        self.assertEqual((self.thing("uc"), self.thing("ic"), self.thing("sc")), (unit, image, [other, unit]))
        self.assertEqual((self.thing("m"), self.thing("h"), self.thing("n")), (*stripped(image), image))
        self.assertEqual(self.thing("b"), Unit(unit.parts + other.parts * 2))
        self.says("ok", "drop b")
        self.refused(NoThing("b"), "drop b")

    def test_each_deed_of_patches(self):
        self.says("ok", "bytes a 01 02 03", "bytes b 01 09 03", "bytes c 01 02", "patch p a b", "fit d a p", "turn q p", "chain e p q", "merge f p p")
        self.assertEqual(self.thing("d"), (1, 9, 3))
        self.assertEqual(self.thing("p").spots, ((1, (2,), (9,)),))
        self.assertEqual(self.thing("q").spots, ((1, (9,), (2,)),))
        self.assertEqual((self.thing("e").spots, self.thing("f").spots), (((1, (2,), (2,)),), ((1, (2,), (9,)),)))
        self.refused(Misfit(2), "fit d c p")
        self.program()
        data = self.thing("i").data
        self.says("ok", f"bytes x {line(data)}", f"bytes y {line(data[:1] + (7,) + data[2:])}", "patch z x y", "fit n i z", "link j v,u - x -",
                  "carry m z i j", "fit o j m")
        self.assertEqual(run(self.thing("n"), (3,))[0], [7, 3])
        self.assertEqual(run(self.thing("o"), (3,))[0], [7, 3])

    def test_a_join_of_none(self):
        self.refused(NoDeed(0), "join b -")

    def test_as_the_bench_refuses(self):
        self.write("t", "part a", "told x")
        self.refused(Wrong(2, 1), "assemble u t")
        self.refused(NoThing("w"), "assemble u w")
        self.refused(OtherKind("t"), "dump u t")
        self.refused(Circle("t"), "assemble t t")
        self.program()
        self.refused(Untold("f", 0), "link z u - x -")

    def test_no_asks(self):
        self.program()
        self.no_ask(
            "", " ", "put t a", "put", "assemble", "assemble u", "assemble u t t", "assemble u T", "assemble U t", "assemble u -", "assemble u  t", " assemble u t",
            "assemble u t ", "assemble - t", "Assemble u t", "assemble u t,w", "dump d u,v", "write b u", "write b u 0", "write b u 4", "write b u 01", "write b u --",
            "write b u None", "write b - 3", "write b u,v 3", "unit u", "image i", "shelved s", "shelf s", "shelf s u,", "shelf s ,u", "shelf s u,,v", "shelf s ,",
            "shelf s u,-", "shelf s -,-", "shelf s u, v", "shelf s u;v", "shelf s U", "join b", "join b u,", "join b u v", "join - u", "link i u - x", "link i u - x - -",
            "link i u - - -", "link i u - X -", "link i u - x,y -", "link i u - x x,", "link i u, - x -", "link i u , x -", "link i (u) - x -", "strip m",
            "strip m i i", "chart h", "noted n m", "patch p a", "fit d a", "turn q", "chain e p", "merge f p", "carry m z i", "carry m z i j j", "drop", "drop -", "drop t w",
            "drop t,w", "several", "undo t", "undo ", "redo t", "ok", "note", "shifted a b c")

    def test_of_anything(self):
        for thing in anything():
            self.refused(NoAsk(thing), thing)
        for row in ("names", "undo"):
            self.refused(NoAsk([row]), [row])
            self.refused(NoAsk((row,)), (row,))
        self.assertEqual(self.desk.say(Text("names")), "-")
        self.assertEqual(self.desk.say(row="names"), "-")


class Asks(Case):
    def test_names_stale_kind_of_makes(self):
        self.says("-", "names", "stale")
        self.program()
        self.says("i t u v w", "names")
        self.says("-", "stale")
        self.says("text", "kind t")
        self.says("unit", "kind u")
        self.says("image", "kind i")
        self.says("ok", "bytes r -", "shelf s -", "chart c i", "patch p r r")
        for name, kind in (("r", "row"), ("s", "shelf"), ("c", "chart"), ("p", "patch")):
            self.says(kind, f"kind {name}")
        self.says("t u v w", "of i")
        self.says("t", "of u")
        self.says("-", "of t", "makes c", "makes s")
        self.says("c i u", "makes t")
        self.says("ok", "row t note")
        self.says("c i u", "stale")
        self.says("ok", "drop u")
        self.says("u v w", "of i")
        self.says("-", "makes t")
        for ask in ("kind", "of", "makes", "remake"):
            self.refused(NoThing("zz"), f"{ask} zz")

    def test_remake(self):
        self.program()
        self.says("-", "remake", "remake t", "remake i")
        self.says("ok", "row t note", "row w note")
        self.says("u", "remake u")
        self.says("v i", "remake i")
        self.says("-", "remake")
        self.says("ok", "row t note", "row w note", "strip a i")
        self.says("u v i a", "remake a")
        self.says("ok", "undo")
        self.says("a i u v", "stale")
        self.says("u v i a", "remake")
        self.says("ok", "undo", "redo")
        self.says("-", "stale")
        self.says("ok", "drop w", "row t note")
        self.refused(NoThing("w"), "remake v")
        self.says("u", "remake u")

    def test_no_asks(self):
        self.program()
        self.no_ask("names t", "names ", " names", "stale t", "kind", "kind T", "kind t u", "kind t,u", "kind -", "kind ", "of", "of -", "of t t", "makes", "makes -",
                    "makes T", "remake T", "remake -", "remake t u", "remake t,u", "remake ", "name", "thing t", "deed t", "number t", "made t")


class Runs(Case):
    def test_with_notes(self):
        self.program()
        self.says("5 3; halt 0 9", "run i 1000 3", "run i 7 3", "run i 99999 3 4 5")
        self.says("5; dry 0 7", "run i 100")
        self.says("5; going", "run i 3", "run i 5 3")
        self.says("5 3; going", "run i 6 3")
        self.says("-; going", "run i 0", "run i 1 3", "run i 0 65535")
        self.says("5 65535; halt 0 9", "run i 7 65535")
        self.says("ok", "link f v - f -")
        self.says("0; pile 0 70", "run f 10")

    def test_without_notes(self):
        self.program()
        self.says("ok", "strip m i")
        self.says("5 3; halt", "run m 1000 3")
        self.says("5; dry", "run m 1000")
        self.says("-; going", "run m 0")

    def test_the_part_is_its_number_and_rows_may_be_none(self):
        self.program()
        self.says("ok", "link j v,u - x -")
        self.says("5 3; halt 1 9", "run j 9 3")
        self.write("z", "part a", "part b", "told x", "code m 1", "row 0", "x:", "halt")
        self.says("ok", "assemble k z", "link l k - x -")
        self.says("-; halt 1 0", "run l 9")

    def test_refused(self):
        self.program()
        self.refused(NoThing("zz"), "run zz 10")
        self.refused(OtherKind("u"), "run u 10 3")
        self.no_ask("run", "run i", "run i ", "run i x", "run i -1", "run i 00", "run i 010", "run i 100000", "run i 10 ", "run i 10  3", "run i 10 65536", "run i 10 03",
                    "run i 10 -", "run i 10 -3", "run i 10 3,4", "run i 10 x", "run I 10", "run - 10", "run i 1e3", "run i +5", "run i 10 100000", "run  i 10")
        great = image_of(("code", 1, (0,)), *[("room", 1, 4000)] * 17)
        self.says("ok", f"bytes b {line(image_bytes(great))}", "image g b")
        self.refused(NoBase(16), "run g 10")

    def test_leads(self):
        self.program()
        # Code m of part a: set, call, in, out, halt; a fill; code of part b.
        image = self.thing("i")
        self.assertEqual([begin for begin, _, _, _ in image.stretches], [0, 8])
        for at, answer in ((0, "0 5"), (1, "0 5"), (2, "0 6"), (4, "0 6"), (5, "0 7"), (6, "0 8"), (7, "0 9"), (8, "1 70"), (9, "1 70")):
            self.says(answer, f"leads i {at}")
        self.says("ok", "strip m i")
        self.says("-", "leads m 0", "leads m 9")
        self.write("z", "part a", "told x", "code m 1", "row 0", "x:", "point p d", "halt", "data n 16", "d:", "bytes 1")
        self.says("ok", "assemble y z", "link k y - x -")
        self.says("0 0", "leads k 0")
        self.says("-", "leads k 4", "leads k 15")
        self.says("0 10", "leads k 16")
        self.refused(NoPlace(17), "leads k 17")
        self.refused(NoPlace(99999), "leads k 99999")
        self.refused(NoPlace(10), "leads m 10")
        self.refused(NoThing("zz"), "leads zz 0")
        self.refused(OtherKind("y"), "leads y 99999")
        self.no_ask("leads", "leads i", "leads i -1", "leads i 00", "leads i 01", "leads i 100000", "leads i x", "leads i 0 0", "leads I 0", "leads i 0 ", "leads i -")


class Whole(Case):
    def test_a_desk_has_a_bench_of_its_own(self):
        self.says("ok", "text t")
        self.assertEqual(Desk().say("names"), "-")
        self.assertIsInstance(self.desk.bench, Bench)

    def test_a_changed_text_to_the_end(self):
        self.program()
        self.says("5 9; halt 0 9", "run i 100 9")
        self.write("t", *[row.replace("5", "6") for row in MAIN])
        self.says("i u", "stale")
        self.says("5 9; halt 0 9", "run i 100 9")
        self.says("u i", "remake")
        self.says("6 9; halt 0 9", "run i 100 9")
        self.says("ok", "undo")
        self.says("5 9; halt 0 9", "run i 100 9")
        self.says("ok", "redo")
        self.says("6 9; halt 0 9", "run i 100 9")


if __name__ == "__main__":
    unittest.main()
