"""[25], [4]: units told as texts."""

import unittest

from byteround.assembling import assemble
from byteround.dumping import WIDE, dump
from byteround.things import Part, Stretch, Unit
from byteround.words import words_of
from tests.chance import chance_units
from tests.anything import Number, is_exact


def text_of(*rows):
    return "\n".join(rows)


def lone(stretch, **more):
    return Unit([Part("a", stretches=[stretch], **more)])


class Case(unittest.TestCase):
    def told(self, unit, *rows, wide=WIDE):
        self.assertEqual(dump(unit, wide=wide), text_of(*rows))
        self.assertEqual(assemble(text_of(*rows)), unit)

    def data_told(self, rows, wide=WIDE, **more):
        unit = lone(Stretch("m", kind="data", **more))
        self.told(unit, "part a", f"data m {unit.parts[0].stretches[0].step}", *rows, wide=wide)


class Texts(Case):
    def test_wide(self):
        self.assertEqual(WIDE, 16)
        with self.assertRaises(TypeError):
            dump(lone(Stretch("m", kind="data", data=(1,))), 16)

    def test_several_parts(self):
        main = Stretch(
            "main", kind="code", step=2, data=(0x14, 255, 0x63, 0, 0, 0x64, 0, 0x70, 0, 0, 0x00),
            labels=(("main", 0), ("loop", 2)),
            holds=((3, "full", "far", 0), (6, "near", "loop", 0), (8, "full", "box", 3)),
            lines=((0, 8), (2, 10), (5, 11), (7, 70)))
        box = Stretch(
            "d", kind="data", step=8, data=(1, 2, 3, 1, 2, 0, 3, 0, 0, 0, 0, 0, 0), labels=(("box", 3),),
            holds=((7, "full", "main", 9), (11, "full", "far", 0)), lines=((0, 16), (3, 18), (7, 19), (9, 0), (11, 9)))
        room = Stretch("r", kind="room", step=16, size=12, labels=(("more", 5),), lines=((0, 26), (7, 28)))
        unit = Unit([
            Part("lone", stretches=(main, box, room), told=("loop", "main"), weak=("box", "more"), soft=("far",)),
            Part("empty"), Part("lone", stretches=(Stretch("d", kind="data", data=(9,)),))])
        self.told(
            unit, "part lone", "told loop", "told main", "weak box", "weak more", "soft far", "code main 2", "row 8", "main:",
            "set.short a 255", "row 10", "loop:", "call.long far", "row 11", "if.short a loop", "row 70", "point p box+3",
            "halt", "data d 8", "row 16", "bytes 1 2 3", "row 18", "box:", "bytes 1 2 0 3", "row 19", "held main+9", "row 0",
            "bytes 0 0", "row 9", "held far", "room r 16", "row 26", "leave 5", "more:", "leave 2", "row 28", "leave 5",
            "part empty", "part lone", "data d 1", "row 0", "bytes 9")

    def test_words_that_have_two_forms(self):
        row = (0x14, 5, 0x1b, 0, 5, 0x60, 0, 0x61, 0, 0, 0x62, 0, 0x63, 0, 0, 0x67, 0, 0x6b, 0, 0, 0)
        holds = ((6, "near", "x", 0), (8, "full", "x", 0), (11, "near", "x", 0), (13, "full", "y", 0),
                 (16, "near", "x", 0), (18, "full", "z", 0))
        unit = lone(Stretch("m", kind="code", data=row, labels=(("x", 0),), holds=holds))
        self.told(
            unit, "part a", "code m 1", "row 0", "x:", "set.short a 5", "set.long d 5", "go.short x", "go.long x",
            "call.short x", "call.long y", "if.short d x", "if.long d z", "halt")

    def test_each_word_without_a_field(self):
        row = []
        for first in range(256):
            try:
                words_of((first,))
                row.append(first)
            except ValueError:
                pass
        unit = lone(Stretch("m", kind="code", data=tuple(row)))
        self.assertEqual(assemble(dump(unit)), unit)
        self.assertEqual(dump(unit).split("\n")[3:6], ["halt", "back", "out a"])

    def test_points(self):
        holds = ((1, "full", "y", 0), (4, "full", "y", 1), (7, "full", "m", 65535))
        unit = lone(Stretch("m", kind="code", data=(0x70, 0, 0, 0x71, 0, 0, 0x71, 0, 0, 0), holds=holds))
        self.told(unit, "part a", "code m 1", "row 0", "point p y", "point q y+1", "point q m+65535", "halt")

    def test_lines_at_and_off_labels(self):
        unit = lone(Stretch(
            "m", kind="code", data=(0, 0, 0, 0), labels=(("x", 0), ("y", 1), ("z", 2)), lines=((0, 5), (2, 0), (3, 60000))))
        self.told(
            unit, "part a", "code m 1", "row 5", "x:", "halt", "y:", "halt", "row 0", "z:", "halt", "row 60000", "halt")

    def test_labels_at_one_offset(self):
        unit = lone(Stretch("m", kind="room", size=3, labels=(("b", 0), ("m", 0), ("z", 0), ("a", 2), ("c", 2))))
        self.told(unit, "part a", "room m 1", "row 0", "b:", "m:", "z:", "leave 2", "a:", "c:", "leave 1")

    def test_names_rise(self):
        unit = Unit([Part("a", stretches=[Stretch(
            "m", kind="data", data=(0,) * 9, holds=((0, "full", "h", 0), (2, "full", "g", 0)),
            labels=(("d", 0), ("b", 4), ("c", 5), ("a", 6)))], told=("a", "d"), weak=("b", "c"), soft=("g", "h"))])
        self.assertEqual(dump(unit).split("\n")[:7],
                         ["part a", "told a", "told d", "weak b", "weak c", "soft g", "soft h"])
        self.assertEqual(assemble(dump(unit)), unit)


class Bytes(Case):
    def test_as_many_as_go(self):
        row = tuple(range(40))
        self.data_told(
            ["row 0", "bytes " + " ".join(map(str, range(16))), "bytes " + " ".join(map(str, range(16, 32))),
             "bytes " + " ".join(map(str, range(32, 40)))], data=row)
        self.data_told(["row 0", "bytes " + " ".join(map(str, range(16)))], data=row[:16])
        self.data_told(["row 0", "bytes " + " ".join(map(str, range(16))), "bytes 16"], data=row[:17])

    def test_wide_one_and_beyond_all(self):
        self.data_told(["row 0", "bytes 7", "bytes 8", "bytes 9"], wide=1, data=(7, 8, 9))
        self.data_told(["row 0", "bytes 7 8", "bytes 9"], wide=2, data=(7, 8, 9))
        for wide in (3, 4, 4000, 10 ** 30):
            self.data_told(["row 0", "bytes 7 8 9"], wide=wide, data=(7, 8, 9))

    def test_up_to_the_next_label_line_or_hold(self):
        self.data_told(
            ["row 3", "bytes 1 2", "x:", "bytes 3", "row 4", "bytes 4 5", "held y", "bytes 6", "row 0", "z:", "held x+2",
             "bytes 7 8"],
            data=(1, 2, 3, 4, 5, 0, 0, 6, 0, 0, 7, 8), labels=(("x", 2), ("z", 8)),
            holds=((5, "full", "y", 0), (8, "full", "x", 2)), lines=((0, 3), (3, 4), (8, 0)))

    def test_wide_begins_anew_behind_each(self):
        self.data_told(
            ["row 0", "bytes 1 2", "bytes 3", "x:", "bytes 4 5", "bytes 6"], wide=2, data=(1, 2, 3, 4, 5, 6),
            labels=(("x", 3),))

    def test_holds_next_to_one_another(self):
        self.data_told(
            ["row 0", "held y", "held y", "row 1", "held z+65535"], wide=1, data=(0,) * 6,
            holds=((0, "full", "y", 0), (2, "full", "y", 0), (4, "full", "z", 65535)), lines=((0, 0), (4, 1)))

    def test_rooms(self):
        unit = lone(Stretch(
            "m", kind="room", step=4, size=4000, labels=(("x", 0), ("y", 10), ("z", 20)), lines=((0, 7), (10, 8), (15, 0))))
        self.told(
            unit, "part a", "room m 4", "row 7", "x:", "leave 10", "row 8", "y:", "leave 5", "row 0", "leave 5", "z:",
            "leave 3980")
        self.told(lone(Stretch("m", kind="room", size=4000)), "part a", "room m 1", "row 0", "leave 4000")


class Back(Case):
    def test_whatever_unit(self):
        for unit in chance_units(1, 150):
            for wide in (1, 2, 16, 5000):
                self.assertEqual(assemble(dump(unit, wide=wide)), unit)

    def test_a_part_without_stretches(self):
        self.told(Unit([Part("a"), Part("b")]), "part a", "part b")

    def test_exactly_the_builtin_kinds(self):
        self.assertTrue(is_exact(dump(Unit([Part("a")]), wide=Number(4))))


if __name__ == "__main__":
    unittest.main()
