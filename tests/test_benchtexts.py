"""[84]: benches as texts."""

import random
import unittest

from byteround.assembling import assemble
from byteround.bench import Bench
from byteround.benchtexts import bench_text, read_bench
from byteround.errors import NoText, NothingDone
from byteround.linking import link
from byteround.patches import Patch
from byteround.stripping import Chart, stripped
from tests.anything import Text, anything, is_exact
from tests.benches import chance_bench, seen
from tests.test_bench import IMAGE, MAIN, MAIN_SIX, MORE, OTHER, UNIT, bench_of, full


def worked():
    """A bench on which much was done: deeds, several at once, remakes, and some taken back."""
    bench = full()
    bench.several([("put", "w", MORE), ("assemble", "v", "w"), ("assemble", "n", "t")])
    bench.do(("link", "e", ("n", "v"), (), "x", ("f", "x")))
    bench.do(("link", "g", ("n",), ("s", "s"), "x", ()))
    bench.do(("write", "b", "e", None))
    bench.do(("write", "d", "u", 3))
    bench.do(("shelf", "h", ()))
    bench.do(("put", "t", MAIN_SIX))
    bench.remake("e")
    bench.do(("put", "t", MAIN))
    bench.remake_all()
    bench.do(("drop", "p"))
    bench.do(("put", "y", "never"))
    bench.undo()
    return bench


class Case(unittest.TestCase):
    def comes_back(self, bench):
        text = bench_text(bench)
        self.assertIs(type(text), str)
        read = read_bench(text)
        self.assertEqual(read, bench)
        self.assertEqual(seen(read), seen(bench))
        self.assertEqual(bench_text(read), text)
        return read

    def refused(self, thing):
        with self.assertRaises(NoText, msg=thing) as caught:
            read_bench(thing)
        row = caught.exception.row
        self.assertTrue(is_exact(row))
        if isinstance(thing, str):
            self.assertIn(row, range(thing.count("\n") + 2), thing)
        else:
            self.assertEqual(caught.exception, NoText(0))


class Texts(Case):
    def test_the_empty_one(self):
        read = self.comes_back(Bench())
        self.assertEqual(read.names(), [])

    def test_each_thing_that_is_put(self):
        note = (3, "part", "name", (("a", 0), ("b", 2)), ((0, 5), (2, 0)))
        for thing in (
                "", " ", "a", "\n", "\n\n", MAIN, "note  two blanks \n", "\\", "\\n", "\\\n", "\\\\n\n\\", "\\s \\ s", "put a text b\nundo", "-", "'",
                "( ) [ ]", "none", (), (0,), tuple(range(256)), (1,) * 16, (1,) * 17, UNIT, OTHER, [], [UNIT], [OTHER, UNIT, OTHER],
                IMAGE, stripped(IMAGE)[0], stripped(IMAGE)[1], Chart(0, None), Chart(65535, ()), Chart(7, [note, note]),
                Chart(10 ** 5000, (note[:0] + (10 ** 30,) + note[1:],)), Chart(3, (None, True, False, -5, "a b\n\\s", (), [], [(1,)], "none", "-5")),
                Patch(0), Patch(3), Patch(10 ** 30, [(0, (), (1,)), (5, (255, 0), ()), (9, (3,), (3, 3))])):
            read = self.comes_back(bench_of(("put", "n", thing)))
            self.assertEqual(read.thing_of("n"), thing)
            self.assertIs(type(read.thing_of("n")), type(thing))
            self.comes_back(bench_of(("put", "abcdefgh", thing), ("put", "n", "a")))

    def test_each_deed(self):
        bench = full()
        bench.several([("put", "q", (4, 2, 3)), ("put", "z", Patch(3, [(1, (2,), (9,))])), ("put", "l", Patch(len(IMAGE.data)))])
        for deed in (
                ("assemble", "a", "t"), ("dump", "a", "u"), ("write", "a", "u", None), ("write", "a", "u", 2), ("write", "a", "i", 3),
                ("write", "a", "s", None), ("write", "b", "u", 3), ("unit", "a", "b"), ("write", "b", "i", None), ("image", "a", "b"),
                ("write", "b", "s", None), ("shelved", "a", "b"), ("shelf", "a", ()), ("shelf", "a", ("u",)), ("shelf", "a", ("u", "u")), ("join", "a", ("u",)),
                ("join", "a", ("u", "u")), ("link", "a", ("u",), ("s",), "x", ()), ("link", "a", ("u",), ("s", "s"), "x", ("x", "f")),
                ("link", "a", (), ("s",), "f", ("f",)), ("strip", "a", "i"), ("chart", "a", "i"), ("noted", "a", "i", "c"), ("patch", "a", "r", "q"), ("fit", "a", "r", "p"),
                ("turn", "a", "p"), ("chain", "a", "z", "p"), ("merge", "a", "z", "p"), ("fit", "a", "i", "l"), ("carry", "a", "l", "i", "i"), ("drop", "a")):
            bench.do(deed)
            self.comes_back(bench)

    def test_the_same_can_be_undone(self):
        bench = worked()
        read = self.comes_back(bench)
        with self.assertRaises(NothingDone):
            read.redo()
        many = 0
        while True:
            try:
                bench.undo()
            except NothingDone:
                break
            read.undo()
            many += 1
            self.assertEqual(read, bench)
            self.comes_back(bench)
        self.assertEqual(many, 18)
        with self.assertRaises(NothingDone):
            read.undo()
        self.assertEqual(read, Bench())

    def test_what_is_taken_back_and_what_changed_nothing_is_out(self):
        bench, plain = full(), full()
        bench.do(("put", "t", MAIN))
        bench.remake_all()
        bench.several([("put", "t", MAIN)])
        bench.do(("drop", "t"))
        bench.undo()
        self.assertEqual(bench_text(bench), bench_text(plain))
        # Done otherwise, it is the same bench, but of another text.
        both = Bench()
        both.several([plain.deed_of(name) for name in "tusicpr"])
        self.assertEqual(both, plain)
        self.assertNotEqual(bench_text(both), bench_text(plain))
        self.comes_back(both)

    def test_one_deed_alone_or_as_several(self):
        one, other = bench_of(("put", "n", "a")), Bench()
        other.several([("put", "n", "a")])
        self.assertNotEqual(bench_text(one), bench_text(other))
        self.comes_back(one)
        self.comes_back(other)

    def test_by_chance(self):
        chance = random.Random(9)
        for _ in range(25):
            bench = chance_bench(chance, 20)
            read = self.comes_back(bench)
            for _ in range(5):
                try:
                    bench.undo()
                except NothingDone:
                    break
                read.undo()
                self.assertEqual(read, bench)

    def test_signs(self):
        self.assertRegex(bench_text(worked()), r"\A[ -$&-~\n]*\Z")

    def test_other_kinds_of_texts(self):
        bench = read_bench(Text(bench_text(worked())))
        self.assertEqual(bench, worked())
        self.assertEqual(read_bench(text=bench_text(bench=bench)), bench)


class NoTexts(Case):
    def test_of_anything(self):
        for thing in anything():
            if thing != "":
                self.refused(thing)
        self.refused([bench_text(full())])

    def test_rows_left_out_twice_otherwise(self):
        rows = bench_text(worked()).split("\n")
        self.assertEqual("\n".join(rows), bench_text(worked()))
        for k in range(len(rows)):
            for other in (rows[:k] + rows[k + 1:], rows[:k] + [rows[k]] + rows[k:], rows[:k] + [""] + rows[k:], rows[:k] + ["undo"] + rows[k + 1:],
                          rows[:k] + rows[k + 1:] + rows[k:k + 1], rows[:k] + [rows[k] + " "] + rows[k + 1:], rows[:k] + [" " + rows[k]] + rows[k + 1:],
                          rows[:k] + [rows[k].replace(" ", "  ", 1)] + rows[k + 1:], rows[:k] + [rows[k].upper()] + rows[k + 1:]):
                self.refused_or_just_so("\n".join(other))
        self.refused("\n".join(rows) + "\n")
        self.refused("\n" + "\n".join(rows))
        self.refused("\n")
        self.refused(" ")

    def refused_or_just_so(self, text):
        try:
            bench = read_bench(text)
        except NoText as refusal:
            self.assertIn(refusal.row, range(text.count("\n") + 2))
            return False
        self.assertEqual(bench_text(bench), text)
        return True

    def test_each_sign_otherwise_left_out_twice(self):
        chance = random.Random(11)
        bench = bench_of(("put", "t", "part a\ntold x\ncode m 1\nx:\nset a 5\nhalt"), ("assemble", "u", "t"), ("put", "p", Patch(2, [(0, (1,), ())])),
                         ("put", "c", Chart(5, ((0, "a", "b", (), ((0, 1),)),))), ("put", "r", (1, 2)))
        bench.several([("link", "i", ("u", "u")[:1], (), "x", ()), ("write", "b", "i", None), ("put", "s", [assemble("part a")])])
        bench.do(("put", "t", "part a\ntold x\ncode m 1\nx:\nset a 6\nhalt"))
        bench.remake_all()
        text = bench_text(bench)
        many = 0
        for at in range(len(text)):
            signs = " \n-09afnx(')[\\,:" + chance.choice("bcdeghz12345678")
            for sign in signs:
                if sign != text[at]:
                    many += self.refused_or_just_so(text[:at] + sign + text[at + 1:])
            many += self.refused_or_just_so(text[:at] + text[at + 1:])
            many += self.refused_or_just_so(text[:at] + text[at] + text[at:])
        self.assertLess(many, len(text) * 10)

    def test_rows_that_no_bench_writes(self):
        good = bench_text(full())
        for row in (
                "put", "put n", "put n text", "put n other a", "put N text a", "put n row", "put n row ", "put n row 0", "put n row 0g", "put n row 0A",
                "put n row 01  02", "put n row 01 02 ", "put n unit 00", "put n image -", "put n shelf 57", "put n patch", "put n patch ( 3 ( ) ) )",
                "put n patch ( 3 ( )", "put n patch ( 3 )", "put n patch ( -1 ( ) )", "put n patch ( 3 ( ) ) (", "put n patch ( 3 ( ) ) 5", "put n patch 5 (", "put n patch ( 3 [ ] )", "put n patch 3 ( )", "put n patch ( 03 ( ) )",
                "put n chart ( 5 none", "put n chart ( 5 nothing )", "put n chart ( 5 ( ] )", "put n chart [ 5 none ]", "put n chart ( 5 none none )",
                "put n chart ( - none )", "put n chart  ( 5 none )", "put n chart ( -0 none )", "put n chart ( 5" + " (" * 3000 + " )" * 3000 + " )",
                "put n chart " + "( " * 3000, "put n text \\", "put n text \\s", "put n text \\q", "several", "several 0", "several 00", "several -1", "several x",
                "several 1", "several 2\nput n text a", "several 1 \nput n text a", "several 01\nput n text a", "several 1\nremake", "several 1\nundo",
                "several 1\nseveral 1\nput n text a", "remake", "remake t", "remake zz", "remake t u", "remake ", "undo", "redo", "drop", "drop zz",
                "drop t u", "assemble n", "assemble n zz", "assemble n u", "assemble n t t", "dump t u u", "dump u u", "join n -", "join n u,", "join n ,",
                "shelf n zz", "shelf n -,u", "write n u 0", "write n u 4", "write n u", "write n s 3", "write n u 01", "unit n r", "link n u s x", "link n u - x -",
                "link n u s - -", "fit n i p", "note", "text n", "do put n text a"):
            self.refused(good + "\n" + row)
            self.refused(row)
            # Ahead of others `several 1` may take one of them.
            self.refused_or_just_so(row + "\n" + good)
        # One that changes nothing.
        self.refused(good + "\nput t text " + MAIN.replace("\n", "\\n"))

    def test_a_text_of_another_bench_is_read_as_such(self):
        good = bench_text(full())
        for row in ("put n text a", "put n row -", "put n text ", "assemble n t", "drop t", "several 1\ndrop t", "link n u s x x,f", "write n u -",
                    "several 2\nput n text a\ndrop n"):
            self.assertEqual(bench_text(read_bench(good + "\n" + row)), good + "\n" + row)

    def test_the_row_is_told(self):
        good = bench_text(bench_of(("put", "t", "a"), ("put", "u", "b")))
        for text, row in ((good + "\ndrop zz", 3), ("drop zz\n" + good, 1), (good + "\nput t text a", 3), (good + "\n", 3),
                          ("put t text a\n" + good, 2)):
            with self.assertRaises(NoText) as caught:
                read_bench(text)
            self.assertEqual(caught.exception, NoText(row))

    def test_nothing_is_shared(self):
        text = bench_text(full())
        one, other = read_bench(text), read_bench(text)
        one.do(("drop", "t"))
        self.assertEqual(other, full())
        self.assertEqual(bench_text(other), text)
        self.assertEqual(link([other.thing_of("u")], "x", shelves=[other.thing_of("s")]), IMAGE)


if __name__ == "__main__":
    unittest.main()
