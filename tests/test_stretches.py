"""[20]: stretches."""

import unittest

from byteround.errors import NoUnit
from byteround.things import Stretch
from tests.anything import Number, Row, Rows, Text, anything, is_exact

HALT = 0x00
NEAR = {0x60: "go.short", 0x62: "call.short", 0x64: "if.short a", 0x65: "if.short b", 0x66: "if.short c",
        0x67: "if.short d"}
FULL = {0x61: "go.long", 0x63: "call.long", 0x68: "if.long a", 0x69: "if.long b", 0x6a: "if.long c",
        0x6b: "if.long d"}
POINTS = {0x70: "point p", 0x71: "point q"}


class Case(unittest.TestCase):
    def refused(self, field, name="box", **more):
        with self.assertRaises(NoUnit, msg=(name, more)) as caught:
            Stretch(name, **{"kind": "data", **more})
        self.assertEqual(caught.exception.field, field, (name, more))

    def data(self, many=4, **more):
        return Stretch("box", kind="data", data=(0,) * many, **more)

    def not_data(self, field, many=4, **more):
        self.refused(field, data=(0,) * many, **more)

    def code(self, *row, **more):
        return Stretch("box", kind="code", data=row, **more)

    def not_code(self, field, *row, **more):
        self.refused(field, kind="code", data=row, **more)

    def room(self, size=4, **more):
        return Stretch("box", kind="room", size=size, **more)

    def not_room(self, field, size=4, **more):
        self.refused(field, kind="room", size=size, **more)


class Fields(Case):
    def test_all_told(self):
        made = Stretch(
            "main", lines=((0, 3), (2, 0), (3, 3)), holds=((1, "near", "end", 0),), labels=(("begin", 0), ("end", 3)),
            size=4, data=(0x60, 0, 1, 0), step=4, kind="code")
        self.assertEqual(made.name, "main")
        self.assertEqual(made.kind, "code")
        self.assertEqual(made.step, 4)
        self.assertEqual(made.data, (0x60, 0, 1, 0))
        self.assertEqual(made.size, 4)
        self.assertEqual(made.labels, (("begin", 0), ("end", 3)))
        self.assertEqual(made.holds, ((1, "near", "end", 0),))
        self.assertEqual(made.lines, ((0, 3), (2, 0), (3, 3)))
        self.assertEqual(len(made), 4)

    def test_defaults(self):
        made = Stretch(name="a", kind="data", data=(7,))
        told = (made.step, made.size, made.labels, made.holds, made.lines)
        self.assertEqual(told, (1, 1, (), (), ((0, 0),)))
        with self.assertRaises(TypeError):
            Stretch("a", "data")

    def test_a_room(self):
        made = self.room(size=9, labels=(("a", 0), ("b", 8)), lines=((0, 5), (7, 6)))
        self.assertEqual((made.data, made.size, len(made)), ((), 9, 9))

    def test_lists_are_told_as_tuples(self):
        made = self.data(8, labels=[("a", 0)], holds=[(2, "full", "b", 5)], lines=[(0, 1), (1, 2)])
        self.assertEqual(made.labels, (("a", 0),))
        self.assertEqual(made.holds, ((2, "full", "b", 5),))
        self.assertEqual(made.lines, ((0, 1), (1, 2)))

    def test_lists_changed_behind(self):
        labels, holds, lines = [("a", 0)], [(2, "full", "b", 5)], [(0, 1)]
        made = self.data(8, labels=labels, holds=holds, lines=lines)
        labels.append(("c", 1))
        holds[0] = None
        lines.clear()
        self.assertEqual(made.labels, (("a", 0),))
        self.assertEqual(made.holds, ((2, "full", "b", 5),))
        self.assertEqual(made.lines, ((0, 1),))
        self.assertEqual((labels, holds, lines), ([("a", 0), ("c", 1)], [None], []))

    def test_exactly_the_builtin_kinds(self):
        made = Stretch(
            Text("box"), kind=Text("data"), step=Number(2), data=Row([Number(0)] * 4), size=Number(4),
            labels=Rows([Row((Text("a"), Number(0)))]), holds=Row([Row((Number(2), Text("full"), Text("b"), Number(5)))]),
            lines=Rows([Row((Number(0), Number(7)))]))
        fields = [
            made.name, made.kind, made.step, made.data, made.size, made.labels, made.holds, made.lines, len(made)]
        self.assertTrue(is_exact(fields))
        self.assertTrue(is_exact(self.room(size=Number(3)).size))
        self.assertEqual(fields, ["box", "data", 2, (0, 0, 0, 0), 4, (("a", 0),), ((2, "full", "b", 5),), ((0, 7),), 4])


class NamesKindsSteps(Case):
    def test_names(self):
        for name in ("a", "z", "ab", "abcdefgh", "aaaaaaaa", "zebra"):
            self.assertEqual(Stretch(name, kind="room", size=1).name, name)
        for name in ("", "abcdefghi", "A", "aB", "a1", "1", "a ", " a", "a-b", "a_b", "a\n", "\u00e4", "\u0430", "a.b"):
            self.refused("name", name=name, data=(1,))

    def test_kinds(self):
        for kind in ("", "Code", "CODE", "codes", "cod", "text", "code ", ("code",), ["data"], {"room": 1}, None, 0):
            self.refused("kind", kind=kind, data=(0,))

    def test_steps(self):
        for step in (1, 2, 4, 8, 16):
            self.assertEqual(self.data(1, step=step).step, step)
        for step in (0, 3, 5, 6, 7, 9, 12, 15, 17, 32, -1, -2, True, None, "1", (1,), 10 ** 5000):
            self.not_data("step", step=step)


class DataAndSizes(Case):
    def test_no_rows(self):
        for data in ([0], [], None, "", "0", 0, (256,), (-1,), (True,), (0, False), ((0,),), {0: 0}):
            for kind in ("code", "data", "room"):
                self.refused("data", kind=kind, data=data, size=1)

    def test_code_is_words(self):
        for row in ((HALT,), (HALT, 0x01, 0x20), (0x14, 2), (0x18, 2, 2), (0x15, 0xff, HALT)):
            self.assertEqual(self.code(*row).data, row)
        for row in ((2,), (HALT, 2), (2, HALT), (0x14,), (0x18, 0), (HALT, 0x60), (0x61, 0), (0x70,), (0xff,)):
            self.not_code("data", *row)
            self.assertEqual(Stretch("a", kind="data", data=row).data, row)

    def test_room_has_no_data(self):
        self.not_room("data", data=(0,))
        self.not_room("data", size=1, data=(0,))
        self.not_room("data", data=[])

    def test_sizes_of_data_and_code(self):
        for many in (1, 2, 3999, 4000):
            for kind in ("data", "code"):
                for size in (many, None):
                    self.assertEqual(len(Stretch("a", kind=kind, data=(0,) * many, size=size)), many)
                for size in (many - 1, many + 1, 0, -1, 4001, "1", (many,), 10 ** 5000):
                    self.refused("size", kind=kind, data=(0,) * many, size=size)
        for kind in ("data", "code"):
            self.refused("size", kind=kind, data=(0,), size=True)
            for many in (0, 4001, 4002, 5000):
                for size in (many, None, 4000, 1):
                    self.refused("size", kind=kind, data=(0,) * many, size=size)

    def test_sizes_of_rooms(self):
        for size in (1, 2, 3999, 4000):
            self.assertEqual(len(self.room(size)), size)
        for size in (0, 4001, 5000, -1, None, True, False, "1", (1,), [1], 10 ** 5000):
            self.not_room("size", size)
        self.refused("size", kind="room")


class Labels(Case):
    def test_labels_anywhere_in_data_and_room(self):
        labels = (("d", 0), ("a", 1), ("b", 1), ("c", 2), ("aa", 3), ("ab", 3), ("b" * 8, 3))
        self.assertEqual(self.data(labels=labels).labels, labels)
        self.assertEqual(self.room(labels=labels).labels, labels)
        self.assertEqual(self.code(0, 0, 0, 0, labels=labels).labels, labels)

    def test_wrong_order(self):
        for labels in ((("a", 1), ("b", 0)), (("b", 1), ("a", 1)), (("ab", 1), ("aa", 1)), (("aa", 1), ("a", 1)),
                       (("a", 0), ("c", 2), ("b", 1))):
            self.not_data("labels", labels=labels)
            self.not_room("labels", labels=labels)
            self.not_code("labels", 0, 0, 0, labels=labels)

    def test_twice(self):
        for labels in ((("a", 1), ("a", 1)), (("a", 0), ("a", 1)), (("a", 0), ("b", 1), ("a", 2))):
            self.not_data("labels", labels=labels)
            self.not_room("labels", labels=labels)

    def test_beyond_the_size(self):
        for offset in (4, 5, 4000, -1, -4, 10 ** 5000, True, "0", None, (0,)):
            self.not_data("labels", labels=(("a", offset),))
            self.not_room("labels", labels=(("a", offset),))
            self.not_code("labels", 0, 0, 0, 0, labels=(("a", offset),))
        for offset in (0, 3):
            self.assertEqual(self.data(labels=(("a", offset),)).labels, (("a", offset),))

    def test_off_a_words_begin(self):
        row = (0x14, 0, 0x18, 0, 0, HALT)
        for offset in range(6):
            if offset in (0, 2, 5):
                self.assertEqual(self.code(*row, labels=(("a", offset),)).labels, (("a", offset),))
            else:
                self.not_code("labels", *row, labels=(("a", offset),))

    def test_of_other_things(self):
        for thing in anything():
            if thing not in ((), [], [("a", 0)]):
                self.not_data("labels", labels=thing)
            if thing != ("a", 1):
                self.not_data("labels", labels=[thing])
            self.not_data("labels", labels=(("a", 0), thing))
            if thing not in ("a", "abc"):
                self.not_data("labels", labels=[(thing, 0)])
        for label in (["a", 0], ("a",), ("a", 0, 0), ("A", 0), ("", 0), ("abcdefghi", 0), (0, "a"), "a0"):
            self.not_data("labels", labels=[label])
        for labels in ("", {}, {"a": 0}, None, 0, ("a", 0)):
            self.not_data("labels", labels=labels)


class DataHolds(Case):
    def test_holds(self):
        holds = ((0, "full", "a", 0), (2, "full", "a", 65535), (5, "full", "b", 1))
        self.assertEqual(self.data(7, holds=holds).holds, holds)

    def test_only_full_ones(self):
        self.not_data("holds", holds=((0, "near", "a", 0),))
        self.not_data("holds", labels=(("a", 0),), holds=((2, "near", "a", 0),))

    def test_forms(self):
        for form in ("", "Full", "far", "long", "short", None, 0, 1, ("full",), ["full"], {"full": 1}):
            self.not_data("holds", holds=((0, form, "a", 0),))

    def test_wrong_order_and_overlapping(self):
        for holds in (((2, "full", "a", 0), (0, "full", "b", 0)), ((0, "full", "a", 0), (0, "full", "b", 0)),
                      ((0, "full", "a", 0), (1, "full", "b", 0)), ((0, "full", "a", 0),) * 2):
            self.not_data("holds", holds=holds)
        self.data(holds=((0, "full", "a", 0), (2, "full", "a", 0)))

    def test_beyond_the_size(self):
        self.data(holds=((2, "full", "a", 0),))
        for offset in (3, 4, 5, -1, -2, -4, 10 ** 5000, True, None, "0", (0,)):
            self.not_data("holds", holds=((offset, "full", "a", 0),))

    def test_fields_have_bytes_nought(self):
        for data in ((1, 0), (0, 1), (255, 255)):
            self.refused("holds", data=data + (0, 0), holds=((0, "full", "a", 0),))
            self.assertEqual(Stretch("a", kind="data", data=data + (0, 0), holds=((2, "full", "a", 0),)).size, 4)

    def test_plus(self):
        for plus in (0, 1, 65535):
            self.data(holds=((0, "full", "a", plus),))
        for plus in (-1, 65536, True, False, None, "0", 10 ** 5000, (0,)):
            self.not_data("holds", holds=((0, "full", "a", plus),))

    def test_names(self):
        self.data(holds=((0, "full", "abcdefgh", 0),))
        for name in ("", "abcdefghi", "A", None, 0, ("a",), ["a"]):
            self.not_data("holds", holds=((0, "full", name, 0),))

    def test_a_label_within_a_field(self):
        holds = ((1, "full", "x", 0),)
        for offset in (0, 1, 3):
            self.data(labels=(("a", offset),), holds=holds)
        self.not_data("holds", labels=(("a", 2),), holds=holds)
        self.not_data("holds", labels=(("a", 0), ("b", 2), ("c", 3)), holds=holds)

    def test_room_has_none(self):
        self.not_room("holds", holds=((0, "full", "a", 0),))
        self.not_room("holds", holds=[(0, "near", "a", 0)])
        self.room(holds=[])

    def test_of_other_things(self):
        for thing in anything():
            if not isinstance(thing, (list, tuple)) or len(thing) > 0:
                self.not_data("holds", holds=thing)
            self.not_data("holds", holds=[thing])
            self.not_data("holds", holds=[(0, "full", "a", 0), thing])
        for hold in ([0, "full", "a", 0], (0, "full", "a"), (0, "full", "a", 0, 0), (0, "a", "full", 0)):
            self.not_data("holds", holds=[hold])


class CodeHolds(Case):
    def test_each_word_has_its_hold(self):
        for byte in NEAR:
            holds = ((1, "near", "a", 0),)
            self.assertEqual(self.code(byte, 0, 0, labels=(("a", 2),), holds=holds).holds, holds)
            self.not_code("holds", byte, 0, 0, labels=(("a", 2),))
            self.not_code("holds", byte, 0, 0, labels=(("a", 2),), holds=((1, "full", "a", 0),))
            self.not_code("holds", byte, 0, 0, labels=(("a", 2),), holds=((0, "near", "a", 0),))
            self.not_code("holds", byte, 0, 0, labels=(("a", 2),), holds=((2, "near", "a", 0),))
        for byte in {**FULL, **POINTS}:
            holds = ((1, "full", "a", 0),)
            self.assertEqual(self.code(byte, 0, 0, 0, labels=(("a", 3),), holds=holds).holds, holds)
            self.assertEqual(self.code(byte, 0, 0, 0, holds=holds).holds, holds)
            self.not_code("holds", byte, 0, 0, 0, labels=(("a", 3),))
            self.not_code("holds", byte, 0, 0, 0, labels=(("a", 3),), holds=((1, "near", "a", 0),))
            self.not_code("holds", byte, 0, 0, 0, labels=(("a", 3),), holds=((2, "full", "a", 0),))

    def test_nothing_else_is_held(self):
        self.not_code("holds", 0, 0, 0, holds=((0, "full", "a", 0),))
        self.not_code("holds", 0x18, 0, 0, holds=((1, "full", "a", 0),))
        self.not_code("holds", 0x14, 0, labels=(("a", 0),), holds=((1, "near", "a", 0),))
        self.not_code("holds", 0x61, 0, 0, 0x18, 0, 0, holds=((1, "full", "a", 0), (4, "full", "b", 0)))

    def test_several(self):
        row = (0x61, 0, 0, 0x70, 0, 0, 0x60, 0, HALT)
        holds = ((1, "full", "x", 0), (4, "full", "y", 9), (7, "near", "a", 0))
        labels = (("a", 0),)
        self.assertEqual(self.code(*row, labels=labels, holds=holds).holds, holds)
        for wrong in (holds[:2], holds[1:], holds[::2], (holds[1], holds[0], holds[2]), holds + (holds[2],), holds[::-1]):
            self.not_code("holds", *row, labels=labels, holds=wrong)

    def test_fields_have_bytes_nought(self):
        self.not_code("holds", 0x60, 1, 0, labels=(("a", 2),), holds=((1, "near", "a", 0),))
        self.not_code("holds", 0x61, 1, 0, holds=((1, "full", "a", 0),))
        self.not_code("holds", 0x71, 0, 1, holds=((1, "full", "a", 0),))

    def test_plus(self):
        for byte in FULL:
            for plus in (1, 65535):
                self.not_code("holds", byte, 0, 0, holds=((1, "full", "a", plus),))
        for byte in NEAR:
            self.not_code("holds", byte, 0, labels=(("a", 0),), holds=((1, "near", "a", 1),))
        for byte in POINTS:
            for plus in (0, 1, 65535):
                self.assertEqual(self.code(byte, 0, 0, holds=((1, "full", "a", plus),)).holds[0][3], plus)
            for plus in (-1, 65536, True, None):
                self.not_code("holds", byte, 0, 0, holds=((1, "full", "a", plus),))

    def test_a_near_name_is_a_label(self):
        self.not_code("holds", 0x60, 0, holds=((1, "near", "a", 0),))
        self.not_code("holds", 0x60, 0, labels=(("a", 0),), holds=((1, "near", "b", 0),))

    def test_how_far_a_near_one_reaches(self):
        for byte in NEAR:
            for on in (0, 1, 126, 127, 128, 129, 1000):
                row = (byte, 0) + (0,) * (on + 1)
                more = {"labels": (("a", 2 + on),), "holds": ((1, "near", "a", 0),)}
                if on <= 127:
                    self.assertEqual(self.code(*row, **more).data, row)
                else:
                    self.not_code("holds", *row, **more)
            for back in (2, 3, 127, 128, 129, 130, 1000):
                row = (0,) * (back - 2) + (byte, 0)
                more = {"labels": (("a", 0),), "holds": ((back - 1, "near", "a", 0),)}
                if back <= 128:
                    self.assertEqual(self.code(*row, **more).data, row)
                else:
                    self.not_code("holds", *row, **more)


class Lines(Case):
    def test_lines(self):
        lines = ((0, 0), (1, 60000), (2, 0), (3, 1))
        self.assertEqual(self.data(lines=lines).lines, lines)
        self.assertEqual(self.room(lines=lines).lines, lines)
        self.assertEqual(self.code(0, 0, 0, 0, lines=lines).lines, lines)

    def test_one_or_more_the_first_at_nought(self):
        for lines in ((), [], ((1, 0),), ((1, 5), (2, 6)), ((-1, 0),), ((-1, 1), (0, 0))):
            self.not_data("lines", lines=lines)
            self.not_room("lines", lines=lines)
            self.not_code("lines", 0, 0, 0, 0, lines=lines)

    def test_wrong_order_and_twice(self):
        for lines in (((0, 1), (0, 2)), ((0, 1), (2, 2), (1, 3)), ((0, 1), (2, 2), (2, 3)), ((0, 1), (0, 1))):
            self.not_data("lines", lines=lines)
            self.not_room("lines", lines=lines)

    def test_none_like_the_one_ahead(self):
        for lines in (((0, 1), (1, 1)), ((0, 0), (1, 0)), ((0, 1), (1, 2), (3, 2))):
            self.not_data("lines", lines=lines)
            self.not_room("lines", lines=lines)
        self.data(lines=((0, 1), (1, 2), (2, 1)))

    def test_beyond_the_size(self):
        for offset in (4, 5, 10 ** 5000, -1, True, None, "1", (1,)):
            self.not_data("lines", lines=((0, 1), (offset, 2)))
            self.not_room("lines", lines=((0, 1), (offset, 2)))
        self.not_data("lines", lines=((False, 1),))

    def test_rows(self):
        for row in (0, 1, 60000):
            self.assertEqual(self.data(lines=((0, row),)).lines, ((0, row),))
        for row in (-1, 60001, True, False, None, "1", 10 ** 5000, (1,)):
            self.not_data("lines", lines=((0, row),))
            self.not_room("lines", lines=((0, row),))

    def test_off_a_words_begin(self):
        row = (0x14, 0, 0x61, 0, 0, HALT)
        holds = ((3, "full", "x", 0),)
        for offset in range(1, 6):
            if offset in (2, 5):
                self.code(*row, holds=holds, lines=((0, 1), (offset, 2)))
            else:
                self.not_code("lines", *row, holds=holds, lines=((0, 1), (offset, 2)))

    def test_within_a_field(self):
        holds = ((1, "full", "x", 0),)
        for offset in (1, 3):
            self.data(holds=holds, lines=((0, 1), (offset, 2)))
        self.not_data("lines", holds=holds, lines=((0, 1), (2, 2)))

    def test_of_other_things(self):
        for thing in anything():
            if thing != ((0, 0),):
                self.not_data("lines", lines=thing)
            self.not_data("lines", lines=[thing])
            if thing != (1, 2):
                self.not_data("lines", lines=[(0, 0), thing])
        for line in ([0, 0], (0,), (0, 0, 0), ("0", "0"), "00"):
            self.not_data("lines", lines=[line])


class OfAnything(Case):
    def test_each_field(self):
        """Of anything, each field is refused or kept, and nothing else is raised."""
        right = {"kind": "data", "step": 1, "data": (0, 0), "size": None, "labels": (), "holds": (), "lines": ((0, 0),)}
        for field in right:
            for thing in anything():
                more = {**right, field: thing}
                try:
                    made = Stretch("box", **more)
                except NoUnit as caught:
                    self.assertEqual(caught.field, "size" if more["data"] == () else field)
                else:
                    self.assertEqual(made.size, len(made.data))
        for thing in anything():
            if thing not in ("a", "abc"):
                self.refused("name", name=thing, data=(0,))


class TheFirst(Case):
    ORDER = ("name", "kind", "step", "data", "size", "labels", "holds", "lines")

    def test_of_several_wrong_ones(self):
        wrongs = {"name": "A", "kind": "heap", "step": 3, "data": [0], "size": 7, "labels": 5, "holds": 5, "lines": ()}
        for k, first in enumerate(self.ORDER):
            for later in self.ORDER[k:]:
                more = {"name": "box", "kind": "data", "data": (0,), first: wrongs[first], later: wrongs[later]}
                self.refused(first, **more)
            self.refused(first, **{"name": "box", "kind": "data", "data": (0,),
                                   **{field: wrongs[field] for field in self.ORDER[k:]}})

    def test_data_that_is_no_words_goes_ahead_of_its_size(self):
        self.not_code("data", *(0,) * 4000, 2)
        self.not_code("data", 2, size=9)
        self.not_room("data", size=0, data=(0,))

    def test_a_label_off_a_begin_goes_ahead_of_holds_and_lines(self):
        self.not_code("labels", 0x61, 0, 0, labels=(("a", 1),), lines=())

    def test_a_label_within_a_field_goes_ahead_of_lines(self):
        self.not_data("holds", labels=(("a", 1),), holds=((0, "full", "b", 0),), lines=())


class Equal(Case):
    RIGHT = {"name": "box", "kind": "data", "step": 2, "data": (0, 0, 0, 0), "labels": (("a", 0),),
             "holds": ((0, "full", "b", 1),), "lines": ((0, 1),)}

    def test_equal_where_all_is(self):
        one = Stretch(**self.RIGHT)
        for more in ({}, {"size": 4}, {"labels": [("a", 0)]}, {"holds": [(0, "full", "b", 1)]}, {"lines": [(0, 1)]}):
            self.assertTrue(one == Stretch(**{**self.RIGHT, **more}))
            self.assertFalse(one != Stretch(**{**self.RIGHT, **more}))

    def test_unequal_where_one_field_is(self):
        one = Stretch(**self.RIGHT)
        for more in ({"name": "boy"}, {"step": 4}, {"data": (0, 0, 0, 1)}, {"data": (0, 0, 0)}, {"labels": ()},
                     {"labels": (("b", 0),)}, {"labels": (("a", 2),)}, {"holds": ()}, {"holds": ((0, "full", "b", 2),)},
                     {"holds": ((2, "full", "b", 1),)}, {"lines": ((0, 2),)}, {"lines": ((0, 1), (2, 2))}):
            self.assertFalse(one == Stretch(**{**self.RIGHT, **more}), more)
            self.assertTrue(one != Stretch(**{**self.RIGHT, **more}), more)
        self.assertFalse(self.room(1) == self.room(2))
        self.assertFalse(self.data(1) == self.code(0))

    def test_equal_to_nothing_else(self):
        one = self.room(3)
        for thing in anything() + ["box", ("box", "room", 1, (), 3, (), (), ((0, 0),))]:
            self.assertFalse(one == thing)
            self.assertFalse(thing == one)


if __name__ == "__main__":
    unittest.main()
