"""[60], [44], [62]: images, and their bytes put at a base."""

import unittest

from byteround.errors import NoBase, NoImage
from byteround.images import Image, found_at, placed
from tests.anything import Number, Row, Rows, Text, anything, is_exact
from tests.samples import code_image, image_of, laid

# Code: go.short on, point p, halt, go.long; data; a room. The fields are at 3, 7 and 14.
CODE = (0x60, 0, 0x70, 0, 14, 0x00, 0x61, 0, 2)
DATA = (7, 8, 0, 5, 9)
SPECS = (("code", 1, CODE), ("data", 4, DATA), ("room", 8, 10))
BYTES, STRETCHES = laid(*SPECS)
HOLDS = ((3, 14), (7, 2), (14, 5))
NOTES = (
    (0, "lone", "main", (("main", 0), ("next", 2)), ((0, 1), (5, 0), (6, 4))),
    (0, "lone", "box", (("box", 0), ("field", 2)), ((0, 7), (4, 60000))),
    (3, "other", "main", (("a", 9), ("b", 9)), ((0, 0), (9, 3))),
)


def whole(**more):
    return Image(**{"data": BYTES, "stretches": STRETCHES, "holds": HOLDS, "entry": 0, "notes": NOTES, **more})


class Case(unittest.TestCase):
    def refused(self, part, data, stretches, holds=(), entry=0, notes=None):
        with self.assertRaises(NoImage, msg=(data, stretches, holds, entry, notes)) as caught:
            Image(data, stretches, holds, entry, notes=notes)
        self.assertEqual(caught.exception.part, part, (data, stretches, holds, entry, notes))

    def not_whole(self, part, **more):
        told = {"data": BYTES, "stretches": STRETCHES, "holds": HOLDS, "entry": 0, "notes": NOTES, **more}
        self.refused(part, **told)


class Fields(Case):
    def test_the_sample(self):
        self.assertEqual(BYTES, CODE + (0, 0, 0) + DATA)
        self.assertEqual(STRETCHES, ((0, 9, "code", 1), (12, 5, "data", 4), (24, 10, "room", 8)))

    def test_all_told(self):
        made = Image(BYTES, STRETCHES, HOLDS, 5, notes=NOTES)
        self.assertEqual((made.data, made.stretches, made.holds, made.entry, made.notes),
                         (BYTES, STRETCHES, HOLDS, 5, NOTES))
        self.assertEqual(len(made), 34)
        self.assertIsNone(Image(BYTES, STRETCHES, HOLDS, 5).notes)
        with self.assertRaises(TypeError):
            Image(BYTES, STRETCHES, HOLDS, 5, NOTES)

    def test_lists_are_told_as_tuples_and_may_change_behind(self):
        stretches, holds, notes = list(STRETCHES), list(HOLDS), list(NOTES)
        made = Image(BYTES, stretches, holds, 0, notes=notes)
        stretches.clear()
        holds[0] = None
        notes.append(3)
        self.assertEqual((made.stretches, made.holds, made.notes), (STRETCHES, HOLDS, NOTES))
        self.assertEqual(made, whole())

    def test_exactly_the_builtin_kinds(self):
        def strange(thing):
            if isinstance(thing, tuple):
                return Row([strange(part) for part in thing])
            return Text(thing) if isinstance(thing, str) else None if thing is None else Number(thing)
        made = Image(strange(BYTES), Rows(strange(STRETCHES)), strange(HOLDS), Number(0), notes=Rows(strange(NOTES)))
        self.assertTrue(is_exact([made.data, made.stretches, made.holds, made.entry, made.notes, len(made)]))
        self.assertEqual(made, whole())

    def test_lengths(self):
        self.assertEqual(len(image_of(("code", 1, (0,)))), 1)
        self.assertEqual(len(image_of(("code", 1, (0,)), ("room", 16, 1))), 17)
        self.assertEqual(len(image_of(("code", 1, (0,)), ("data", 8, (1, 2)))), 10)
        self.assertEqual(type(len(whole())), int)

    def test_equal(self):
        self.assertTrue(whole() == whole())
        bare = whole(notes=None)
        others = [
            bare, whole(entry=5), whole(notes=NOTES[:2] + ((4,) + NOTES[2][1:],)),
            whole(data=BYTES[:12] + (6,) + BYTES[13:]), whole(stretches=STRETCHES[:2] + ((24, 11, "room", 8),)),
            whole(holds=HOLDS[:1] + HOLDS[1:2] + ((14, 5),), entry=2),
            Image(BYTES, STRETCHES[:2], HOLDS, 0)]
        for other in others + anything():
            self.assertFalse(whole() == other, other)
            self.assertFalse(other == whole(), other)
        data_hold = image_of(("code", 1, (0,)), ("data", 1, (0, 0)), holds=((1, 0),))
        self.assertFalse(data_hold == image_of(("code", 1, (0,)), ("data", 1, (0, 0)), holds=((1, None),)))


class Data(Case):
    def test_no_rows(self):
        for thing in anything():
            if not (isinstance(thing, tuple) and all(type(byte) is int and 0 <= byte < 256 for byte in thing)):
                self.not_whole("data", data=thing)
        self.not_whole("data", data=list(BYTES))
        self.not_whole("data", data=BYTES[:-1] + (256,))
        self.not_whole("data", data=BYTES[:-1] + (True,))

    def test_first_of_all(self):
        self.refused("data", None, None, None, None, 0)
        self.refused("stretches", (), None, None, None, 0)
        self.refused("holds", BYTES, STRETCHES, None, None, 0)
        self.refused("entry", BYTES, STRETCHES, HOLDS, None, 0)
        self.refused("notes", BYTES, STRETCHES, HOLDS, 0, 0)

    def test_pairs(self):
        wrong = {"data": (256,), "stretches": (), "holds": ((0, 0),), "entry": 1, "notes": ()}
        parts = list(wrong)
        for k, part in enumerate(parts):
            self.not_whole(part, **{part: wrong[part]})
            for other in parts[k + 1:]:
                self.not_whole(part, **{part: wrong[part], other: wrong[other]})


class Stretches(Case):
    def test_of_other_things(self):
        for thing in anything():
            self.not_whole("stretches", stretches=thing)
            self.not_whole("stretches", stretches=(thing,))
            self.not_whole("stretches", stretches=STRETCHES + (thing,))
            for k in range(4):
                strange = list(STRETCHES[2])
                strange[k] = thing
                # The room may be of any size.
                if not (k == 1 and type(thing) is int and 1 <= thing <= 4000 or k == 3 and thing == 1):
                    self.not_whole("stretches", stretches=STRETCHES[:2] + (tuple(strange),), notes=None)
        self.not_whole("stretches", stretches=[list(stretch) for stretch in STRETCHES])
        self.not_whole("stretches", stretches=tuple(stretch[:3] for stretch in STRETCHES))

    def test_rooms_alone_have_no_entry(self):
        for room in (1, 4000):
            self.refused("entry", (), ((0, room, "room", 1),))
        self.refused("entry", (7,), ((0, 1, "data", 1), (1, 1, "room", 1)))
        self.refused("stretches", (0,), ((0, 1, "room", 1),))

    def test_no_stretches(self):
        self.refused("stretches", (), ())
        self.refused("stretches", (), [])

    def test_order(self):
        self.refused("stretches", (0,), ((0, 3, "room", 1), (3, 1, "code", 1)))
        self.refused("stretches", (0, 0, 0, 0), ((0, 3, "room", 1), (3, 1, "code", 1)))
        self.refused("stretches", (0, 9), ((0, 1, "code", 1), (1, 3, "room", 1), (4, 1, "data", 1)))
        Image((9, 0), ((0, 1, "data", 1), (1, 1, "code", 1), (2, 1, "room", 1), (4, 1, "room", 4)), (), 1)

    def test_least_spots(self):
        for step in (1, 2, 4, 8, 16):
            least = -(-5 // step) * step
            for begin in range(0, 40):
                for kind in ("data", "room"):
                    data = (0,) * 5
                    if kind == "data":
                        data = (0,) * begin + (3,) if begin >= 5 else (0,) * 6
                    stretches = ((0, 5, "code", 16), (begin, 1, kind, step))
                    if begin == least:
                        Image(data, stretches, (), 0)
                    else:
                        self.refused("stretches", data, stretches)
        self.refused("stretches", (0, 0), ((1, 1, "code", 1),))
        self.refused("stretches", (0,), ((False, 1, "code", 1),))

    def test_sizes_and_steps(self):
        for size in (0, -1, 4001, True, "1", None, 10 ** 5000):
            self.refused("stretches", (0,), ((0, 1, "code", 1), (1, size, "room", 1)))
        for size in (1, 4000):
            Image((0,), ((0, 1, "code", 1), (1, size, "room", 1)), (), 0)
            Image((0,) * size, ((0, size, "code", 1),), (), 0)
        self.refused("stretches", (0,) * 4001, ((0, 4001, "code", 1),))
        for step in (0, 3, 5, 6, 32, -1, True, "1", None):
            self.refused("stretches", (0,), ((0, 1, "code", step),))
        for kind in ("", "Code", "rooms", None, 0):
            self.refused("stretches", (0,), ((0, 1, kind, 1),))

    def test_as_long_as_they_want(self):
        for data in ((), (0,), (0,) * 3, (0,) * 4, (0,) * 17):
            self.refused("stretches", data, ((0, 2, "code", 1), (16, 2, "room", 16)))
        Image((0, 0), ((0, 2, "code", 1), (16, 2, "room", 16)), (), 0)

    def test_fills_are_nought(self):
        for at in (9, 10, 11):
            self.not_whole("stretches", data=BYTES[:at] + (1,) + BYTES[at + 1:])

    def test_code_is_words(self):
        for row in ((2,), (0, 2), (0x14,), (0, 0x14), (0x61, 0), (0x18, 2), (0xff,)):
            self.refused("stretches", row, ((0, len(row), "code", 1),))
            Image((0,) + row, ((0, 1, "code", 1), (1, len(row), "data", 1)), (), 0)
        # A word that goes on in the next stretch is none.
        self.refused("stretches", (0x14, 0), ((0, 1, "code", 1), (1, 1, "code", 1)))

    def test_near_fields(self):
        for first in (0x60, 0x62, 0x64, 0x65, 0x66, 0x67):
            # set.short at 0, the near one at 2, set.long at 4, halt at 7.
            for distance in range(-128, 128):
                row = (0x14, 5, first, distance % 256, 0x18, 1, 1, 0)
                if 4 + distance in (0, 2, 4, 7):
                    Image(row, ((0, 8, "code", 1),), (), 0)
                else:
                    self.refused("stretches", row, ((0, 8, "code", 1),))
                    self.refused("stretches", row + (0,), ((0, 8, "code", 1), (8, 1, "code", 1)))
        self.refused("stretches", (0x60, 0, 0), ((0, 2, "code", 1), (2, 1, "code", 1)))
        self.refused("stretches", (0, 0x60, 253), ((0, 1, "code", 1), (1, 2, "code", 1)))
        Image((0, 0x60, 254), ((0, 1, "code", 1), (1, 2, "code", 1)), (), 0)

    def test_near_fields_as_far_as_they_go(self):
        Image((0x60, 127) + (0,) * 128, ((0, 130, "code", 1),), (), 0)
        Image((0,) * 126 + (0x60, 128), ((0, 128, "code", 1),), (), 0)

    def test_many_stretches(self):
        specs = [("code", 1, (0,)) if k % 2 else ("data", 2, (k % 256,)) for k in range(600)] + [("room", 16, 4000)] * 30
        made = image_of(*specs, entry=2 * 0 + 1)
        self.assertEqual(len(made.stretches), 630)
        self.assertEqual(len(made), made.stretches[-1][0] + 4000)
        self.assertGreater(len(made), 65536)


class Holds(Case):
    def test_of_other_things(self):
        for thing in anything():
            if thing not in ((), []):
                self.refused("holds", (0,), ((0, 1, "code", 1),), thing)
            self.refused("holds", (0,), ((0, 1, "code", 1),), (thing,))
            if not (type(thing) is int and thing in (0, 1)):
                self.refused("holds", (0, 0, 0, 0), ((0, 1, "code", 1), (1, 3, "data", 1)), ((thing, 0),))
            if not (thing is None or type(thing) is int and thing == 0):
                self.refused("holds", (0, 0, 0, 0), ((0, 1, "code", 1), (1, 3, "data", 1)), ((1, thing),))
        self.refused("holds", (0, 0, 0), ((0, 1, "code", 1), (1, 2, "data", 1)), ([1, 0],))
        self.refused("holds", (0, 0, 0), ((0, 1, "code", 1), (1, 2, "data", 1)), ((1, 0, 0),))

    def test_rising_and_apart(self):
        stretches = ((0, 1, "code", 1), (1, 5, "data", 1))
        for one in range(1, 5):
            for other in range(1, 5):
                holds = ((one, None), (other, 0))
                if other >= one + 2:
                    Image((0,) * 6, stretches, holds, 0)
                else:
                    self.refused("holds", (0,) * 6, stretches, holds)

    def test_within_a_stretch_of_data(self):
        # code 0; data 1 to 3; data 4; a fill 5; data 6, 7; a room 8 to 10.
        stretches = ((0, 1, "code", 1), (1, 3, "data", 1), (4, 1, "data", 1), (6, 2, "data", 2), (8, 3, "room", 1))
        for at in range(-2, 12):
            holds = ((at, None),)
            if at in (1, 2, 6):
                Image((0,) * 8, stretches, holds, 0)
            else:
                self.refused("holds", (0,) * 8, stretches, holds)

    def test_each_full_field_of_code_has_one(self):
        for first in (0x61, 0x63, 0x68, 0x69, 0x6a, 0x6b, 0x70, 0x71):
            row = (0, first, 0, 0, 0x61, 0, 0)
            for holds in ((), ((2, None),), ((5, None),), ((1, None), (5, None)), ((2, None), (4, None)),
                          ((0, None), (2, None), (5, None)), ((3, None), (5, None))):
                self.refused("holds", row, ((0, 7, "code", 1),), holds)
            Image(row, ((0, 7, "code", 1),), ((2, None), (5, None)), 0)
        # A near field, and those of set, have none.
        for row in ((0x60, 0, 0), (0x18, 0, 0, 0), (0, 0, 0)):
            for at in range(3):
                self.refused("holds", row, ((0, len(row), "code", 1),), ((at, None),))

    def test_nowhere_has_bytes_nought(self):
        for field in ((0, 1), (1, 0), (2, 2)):
            self.refused("holds", (0,) + field, ((0, 1, "code", 1), (1, 2, "data", 1)), ((1, None),))
            self.refused("holds", (0x61,) + field, ((0, 3, "code", 1),), ((1, None),))

    def test_targets(self):
        # code 0 to 4: go.long, set.short; data 5 to 8; a fill 9; data 10; a room 12 to 13.
        specs = (("code", 1, (0x61, 0, 0, 0x14, 1)), ("data", 1, (0, 0, 0, 0)), ("data", 2, (5,)), ("room", 4, 2))
        for at, good in ((1, (0, 3)), (6, (0, 3, 5, 6, 7, 8, 10, 12, 13))):
            for target in list(range(0, 20)) + [65535]:
                holds = [(1, None), (at, target)] if at > 1 else [(1, target)]
                if target in good:
                    image_of(*specs, holds=holds)
                else:
                    data, stretches = laid(*specs)
                    data = data[:at] + divmod(target, 256) + data[at + 2:]
                    self.refused("holds", data, stretches, holds)

    def test_point_leads_anywhere(self):
        specs = (("code", 1, (0x71, 0, 0, 0x14, 1)), ("data", 1, (1, 2)), ("room", 1, 2))
        for target in range(-1, 10):
            if target in (0, 3, 5, 6, 7, 8):
                self.assertEqual(image_of(*specs, holds=((1, target),)).holds, ((1, target),))
            elif target >= 0:
                data, stretches = laid(*specs)
                self.refused("holds", data[:1] + (0, target) + data[3:], stretches, ((1, target),))

    def test_bytes_are_the_targets(self):
        stretches = ((0, 1, "code", 1), (1, 4, "data", 1), (5, 300, "room", 1))
        for target in (0, 1, 255, 256, 257, 304):
            for told in (0, 1, 255, 256, 257, 304):
                data = (0,) + divmod(told, 256) + (0, 0)
                if told == target:
                    Image(data, stretches, ((1, target),), 0)
                else:
                    self.refused("holds", data, stretches, ((1, target),))

    def test_no_field_leads_beyond_two_bytes(self):
        specs = [("code", 1, (0,)), ("data", 1, (0, 0))] + [("room", 1, 4000)] * 20
        data, stretches = laid(*specs)
        self.refused("holds", data, stretches, ((1, 65536),))
        self.assertEqual(image_of(*specs, holds=((1, 65535),)).holds, ((1, 65535),))

    def test_a_target_amid_a_held_field(self):
        made = image_of(("code", 1, (0,)), ("data", 1, (0, 0, 0, 0)), holds=((1, 2), (3, 4)))
        self.assertEqual(made.data, (0, 0, 2, 0, 4))


class EntriesAndNotes(Case):
    def test_entries(self):
        data, stretches = laid(("data", 1, (0, 0)), ("code", 2, (0x14, 5, 0)), ("room", 1, 3))
        for entry in range(-3, 12):
            if entry in (2, 4):
                self.assertEqual(Image(data, stretches, (), entry).entry, entry)
            else:
                self.refused("entry", data, stretches, (), entry)
        for thing in anything():
            self.refused("entry", data, stretches, (), thing)
        self.refused("entry", (0,), ((0, 1, "code", 1),), (), False)

    def test_as_many_as_stretches(self):
        for notes in ((), NOTES[:1], NOTES[:2], NOTES + NOTES[:1], [], list(NOTES[1:]), 0, {}, "", "abc", True):
            self.not_whole("notes", notes=notes)
        whole(notes=None)

    def test_of_other_things(self):
        for thing in anything():
            if thing is not None:
                self.not_whole("notes", notes=thing)
            self.not_whole("notes", notes=(thing,) + NOTES[1:])
            for k in range(5):
                note = list(NOTES[2])
                note[k] = thing
                fits = (
                    k == 0 and type(thing) is int and thing >= 0
                    or k in (1, 2) and type(thing) is str and thing in ("a", "abc")
                    or k == 3 and thing == () and type(thing) is tuple
                    or k == 4 and thing == ((0, 0),) and type(thing) is tuple)
                if fits:
                    whole(notes=NOTES[:2] + (tuple(note),))
                else:
                    self.not_whole("notes", notes=NOTES[:2] + (tuple(note),))
        self.not_whole("notes", notes=[list(note) for note in NOTES])
        self.not_whole("notes", notes=[note[:4] for note in NOTES])

    def not_noted(self, number, labels, lines):
        self.not_whole("notes", notes=NOTES[:number] + ((0, "a", "a", labels, lines),) + NOTES[number + 1:])

    def noted(self, number, labels, lines):
        whole(notes=NOTES[:number] + ((0, "a", "a", labels, lines),) + NOTES[number + 1:])

    def test_labels(self):
        for number, good in ((0, (0, 2, 5, 6)), (1, (0, 1, 2, 4)), (2, tuple(range(10)))):
            for at in range(-1, 12):
                if at in good:
                    self.noted(number, (("a", at),), ((0, 0),))
                else:
                    self.not_noted(number, (("a", at),), ((0, 0),))
        for labels in ([("a", 0)], (["a", 0],), (("a", 1), ("b", 0)), (("b", 0), ("a", 0)), (("a", 0), ("a", 1)),
                       (("a", True),), (("A", 0),), (("a", 0, 0),), (("abcdefghi", 0),)):
            self.not_noted(2, labels, ((0, 0),))

    def test_labels_and_lines_of_code_that_begins_later(self):
        specs = (("data", 1, (1, 2, 3)), ("code", 4, (0x14, 5, 0, 0x18, 5, 5)))
        data, stretches = laid(*specs)
        for at in range(-5, 12):
            for labels, lines in (((("a", at),), ((0, 0),)), ((), ((0, 0), (at, 5)))):
                notes = ((0, "a", "a", (), ((0, 0),)), (0, "a", "a", labels, lines))
                if at in (2, 3) or at == 0 and labels:
                    Image(data, stretches, (), 4, notes=notes)
                else:
                    self.refused("notes", data, stretches, (), 4, notes)

    def test_lines(self):
        for number, good in ((0, (2, 5, 6)), (1, (1, 2, 4)), (2, tuple(range(1, 10)))):
            for at in range(-1, 12):
                if at in good:
                    self.noted(number, (), ((0, 0), (at, 1)))
                else:
                    self.not_noted(number, (), ((0, 0), (at, 1)))
        for lines in ((), [(0, 0)], ((1, 0),), ((0, 0), (1, 0)), ((0, 60001),), ((0, -1),), ((0, True),), ([0, 0],)):
            self.not_noted(2, (), lines)
        self.noted(2, (), ((0, 60000), (1, 0)))

    def test_notes_are_looked_at_each_by_itself(self):
        note = (10 ** 30, "lone", "main", (("a", 0),), ((0, 5),))
        whole(notes=(note, note, note))
        whole(notes=(note, (0,) + note[1:], (7, "other") + note[2:]))


class Placed(unittest.TestCase):
    def test_held_fields_with_a_target_are_base_more(self):
        made = image_of(
            ("code", 1, (0x61, 0, 0, 0x70, 0, 0, 0x60, 0, 0x00)), ("data", 2, (1, 0, 0, 2, 0, 0)), ("room", 1, 300),
            holds=((1, 3), (4, 300), (11, None), (14, 10)))
        self.assertEqual(placed(made, 16),
                         (0x61, 0, 19, 0x70, 1, 60, 0x60, 0, 0, 0, 1, 0, 0, 2, 0, 26))
        self.assertEqual(placed(made, 60000)[:6], (0x61, *divmod(60003, 256), 0x70, *divmod(60300, 256)))
        self.assertEqual(type(placed(made, Number(17))), tuple)
        self.assertTrue(is_exact(placed(made, Number(17))))

    def not_placed(self, image, base):
        with self.assertRaises(NoBase) as caught:
            placed(image, base)
        self.assertEqual(caught.exception, NoBase(base))

    def test_no_bases(self):
        made = code_image(0)
        for thing in anything():
            if not (type(thing) is int and 16 <= thing <= 60000):
                self.not_placed(made, thing)
        for base in (15, 0, -16, 60001, 65535):
            self.not_placed(made, base)
        self.assertEqual(placed(made, 16), (0,))
        self.assertEqual(placed(made, 60000), (0,))

    def test_the_end(self):
        for specs in ([("room", 1, 4000), ("room", 1, 1536)], [("data", 1, (1,) * 4000), ("data", 1, (2,) * 1536)]):
            for more in (-2, -1, 0, 1):
                kind, step, what = specs[1]
                last = (kind, step, what + more - 1 if kind == "room" else (2,) * (len(what) + more - 1))
                made = image_of(("code", 1, (0,)), specs[0], last)
                self.assertEqual(len(made), 5536 + more)
                if more <= 0:
                    placed(made, 60000)
                else:
                    self.not_placed(made, 60000)
                    placed(made, 59999)


class Found(unittest.TestCase):
    def image(self):
        return image_of(
            ("code", 1, (0x61, 0, 0, 0x00)), ("data", 1, (0, 0, 0, 0, 9)), holds=((1, None), (4, 3), (6, 0)))

    def test_where_it_was_placed(self):
        made = self.image()
        for base in (16, 17, 255, 256, 257, 40000, 59999, 60000):
            self.assertEqual(found_at(made, placed(made, base)), base)
        self.assertIs(type(found_at(made, Row(Number(byte) for byte in placed(made, 20)))), int)

    def test_its_own_data(self):
        self.assertIsNone(found_at(self.image(), self.image().data))

    def test_beyond_the_bases(self):
        made = self.image()
        for base in (15, 0, 1, 60001, 65000, -1):
            row = list(made.data)
            for at, target in ((4, 3), (6, 0)):
                row[at:at + 2] = divmod((target + base) % 65536, 256)
            self.assertIsNone(found_at(made, tuple(row)))

    def test_rows_otherwise_by_a_byte(self):
        made = self.image()
        row = placed(made, 300)
        for at in range(len(row)):
            for byte in (row[at] ^ 1, row[at] ^ 128, 0):
                if byte != row[at]:
                    self.assertIsNone(found_at(made, row[:at] + (byte,) + row[at + 1:]), at)
        self.assertIsNone(found_at(made, row[:-1]))
        self.assertIsNone(found_at(made, row + (0,)))

    def test_no_rows(self):
        made = self.image()
        for thing in anything() + [list(placed(made, 16)), made]:
            self.assertIsNone(found_at(made, thing))
        self.assertIsNone(found_at(code_image(0, 0), (False, False)))
        self.assertIsNone(found_at(code_image(0), ()))

    def test_none_of_whose_fields_has_a_target(self):
        bare = image_of(("code", 1, (0x61, 0, 0, 0)), ("data", 1, (3, 0, 0)), holds=((1, None), (5, None)))
        self.assertEqual(found_at(bare, bare.data), 16)
        self.assertIsNone(found_at(bare, bare.data[:4] + (4, 0, 0)))
        self.assertEqual(found_at(code_image(0), (0,)), 16)

    def test_what_can_be_put_nowhere(self):
        # 65520 bytes go in at 16, one more doesn't.
        for more in (0, 1):
            specs = [("code", 1, (0,))] + [("room", 1, 4000)] * 16 + [("room", 1, 1519 + more)]
            made = image_of(*specs)
            self.assertEqual(len(made), 65520 + more)
            self.assertEqual(found_at(made, (0,)), None if more else 16)
            held = image_of(("code", 1, (0,)), ("data", 1, (0, 0)), *specs[1:-1], ("room", 1, 1517 + more), holds=((1, 1),))
            self.assertEqual(found_at(held, (0, 0, 17)), None if more else 16)
            self.assertIsNone(found_at(held, (0, 0, 18)))


if __name__ == "__main__":
    unittest.main()
