"""[64]: to which rows the bytes of an image lead, and where a row's bytes are."""

import unittest

from byteround.assembling import assemble, made_by
from byteround.errors import NoPlace
from byteround.images import Image
from byteround.leads import bytes_of_row, leads, traced
from byteround.linking import join, link
from byteround.stripping import stripped, with_notes
from tests.anything import anything, is_exact
from tests.samples import image_of
from tests.test_whole import linked_ones

# Code 0 to 2, a fill at 3, data 4 to 8, fills 9 to 15, data 16 to 19, a room 20 to 25, a fill, a room 28 to 29.
SPECS = (("code", 1, (4, 5, 0)), ("data", 4, (1, 2, 3, 4, 5)), ("data", 16, (6, 7, 8, 9)), ("room", 1, 6), ("room", 4, 2))
NOTES = (
    (2, "lone", "main", (("x", 0),), ((0, 5), (1, 0), (2, 5))),
    (0, "b", "data", (), ((0, 5), (3, 6))),
    (2, "lone", "more", (), ((0, 6), (1, 5), (3, 7))),
    (2, "other", "room", (), ((0, 5), (5, 8))),
    (7, "far", "main", (), ((0, 0),)))
NOTED = image_of(*SPECS, notes=NOTES)
BARE = image_of(*SPECS)


class Leads(unittest.TestCase):
    def test_each_spot(self):
        due = [(2, "main", 0, 5), (2, "main", 1, 0), (2, "main", 2, 5), None,
               (0, "data", 0, 5), (0, "data", 1, 5), (0, "data", 2, 5), (0, "data", 3, 6), (0, "data", 4, 6)]
        due += [None] * 7 + [(2, "more", 0, 6), (2, "more", 1, 5), (2, "more", 2, 5), (2, "more", 3, 7)]
        due += [(2, "room", k, 5) for k in range(5)] + [(2, "room", 5, 8), None, None, (7, "main", 0, 0), (7, "main", 1, 0)]
        self.assertEqual(len(NOTED), 30)
        self.assertEqual([leads(NOTED, at) for at in range(30)], due)
        self.assertTrue(is_exact(leads(NOTED, 0)))
        self.assertEqual(leads(at=4, image=NOTED), (0, "data", 0, 5))

    def test_without_notes(self):
        self.assertEqual([leads(BARE, at) for at in range(30)], [None] * 30)

    def test_no_place(self):
        for thing in anything() + [30, 31, -1, -30, 65536, True, "3", (0, 0)]:
            if type(thing) is int and 0 <= thing < 30:
                continue
            for image in (NOTED, BARE):
                with self.assertRaises(NoPlace, msg=thing) as caught:
                    leads(image, thing)
                self.assertEqual(caught.exception, NoPlace(thing))

    def test_of_a_stripped_one_by_its_chart(self):
        bare, chart = stripped(NOTED)
        self.assertEqual([leads(bare, at) for at in range(30)], [None] * 30)
        self.assertEqual([leads(with_notes(bare, chart), at) for at in range(30)], [leads(NOTED, at) for at in range(30)])


class BytesOfRow(unittest.TestCase):
    def test_each_row(self):
        self.assertEqual(bytes_of_row(NOTED, 2, 5), [(0, 1), (2, 3), (17, 19), (20, 25)])
        self.assertEqual(bytes_of_row(NOTED, 2, 6), [(16, 17)])
        self.assertEqual(bytes_of_row(NOTED, 2, 7), [(19, 20)])
        self.assertEqual(bytes_of_row(NOTED, 2, 8), [(25, 26)])
        self.assertEqual(bytes_of_row(NOTED, 0, 5), [(4, 7)])
        self.assertEqual(bytes_of_row(NOTED, 0, 6), [(7, 9)])
        self.assertTrue(is_exact(bytes_of_row(NOTED, 2, 5)))
        self.assertEqual(bytes_of_row(row=6, part=0, image=NOTED), [(7, 9)])

    def test_two_stretches_behind_one_another(self):
        image = image_of(("data", 1, (1, 2)), ("data", 1, (3, 4)), ("code", 1, (0,)), ("room", 1, 3), entry=4,
                         notes=[(0, "a", name, (), ((0, 3),)) for name in "abcd"])
        self.assertEqual(bytes_of_row(image, 0, 3), [(0, 2), (2, 4), (4, 5), (5, 8)])

    def test_none(self):
        for part, row in ((2, 1), (2, 9), (0, 7), (1, 5), (3, 5), (7, 5), (8, 1), (100, 5), (10 ** 30, 5)):
            self.assertEqual(bytes_of_row(NOTED, part, row), [])
        for part in (0, 1, 2):
            self.assertEqual(bytes_of_row(BARE, part, 5), [])
        self.assertIs(type(bytes_of_row(BARE, 0, 5)), list)

    def test_all_bytes_and_no_others(self):
        for _, _, _, image in linked_ones(61, 30):
            spans = {}
            for at in range(len(image)):
                lead = leads(image, at)
                if lead is not None and lead[3] > 0:
                    spans.setdefault((lead[0], lead[3]), []).append(at)
            for (part, row), spots in spans.items():
                told = bytes_of_row(image, part, row)
                self.assertEqual([at for begin, end in told for at in range(begin, end)], spots)
                self.assertEqual(told, sorted(told))
                for (_, one), (other, _) in zip(told, told[1:]):
                    if one == other:
                        self.assertIn(other, [begin for begin, _, _, _ in image.stretches])

    def test_what_is_told_may_be_changed(self):
        bytes_of_row(NOTED, 0, 5).clear()
        self.assertEqual(bytes_of_row(NOTED, 0, 5), [(4, 7)])


class Traced(unittest.TestCase):
    unit = assemble("\n".join((
        "part a", "told x", "code m 1", "x:", "halt", "row 30", "out a", "halt",
        "data z 1", "bytes 1", "row 30", "bytes 2", "row 40", "bytes 3",
        "room b 1", "leave 3", "row 40", "leave 1",
        "data y 1", "row 41", "bytes 9", "row 42", "bytes 9", "row 41", "bytes 9",
        "part c", "told d", "data m 1", "d:", "row 40", "bytes 3")))

    def test_bytes(self):
        image = link([self.unit], "x")
        self.assertEqual(traced(self.unit, image, 0, 5), ("bytes", [(0, 1)]))
        # In some that are kept, in some that are not.
        self.assertEqual(traced(self.unit, image, 0, 30), ("bytes", [(1, 3)]))
        kept = link([self.unit], "x", keep=("d",))
        self.assertEqual(traced(self.unit, kept, 1, 40), ("bytes", [(3, 4)]))
        self.assertEqual(traced(row=40, part=1, image=kept, unit=self.unit), ("bytes", [(3, 4)]))

    def test_left(self):
        image = link([self.unit], "x")
        self.assertEqual(traced(self.unit, image, 0, 40), ("left", ["b", "z"]))
        self.assertEqual(traced(self.unit, image, 0, 41), ("left", ["y"]))
        self.assertEqual(traced(self.unit, image, 0, 42), ("left", ["y"]))
        self.assertEqual(traced(self.unit, image, 0, 10), ("left", ["z"]))
        self.assertEqual(traced(self.unit, image, 0, 16), ("left", ["b"]))
        self.assertEqual(traced(self.unit, image, 1, 40), ("left", ["m"]))
        self.assertTrue(is_exact(traced(self.unit, image, 0, 40)))

    def test_none(self):
        image = link([self.unit], "x")
        # Rows that make nothing, that another row leads, that aren't there; parts that aren't.
        for part, row in ((0, 1), (0, 3), (0, 4), (0, 6), (0, 7), (0, 8), (0, 100), (1, 30), (1, 5), (2, 40), (99, 1), (-1, 40)):
            self.assertEqual(traced(self.unit, image, part, row), ("none",), (part, row))

    def test_each_row_that_makes_bytes(self):
        for units, entry, keep, image in linked_ones(62, 20):
            unit = join(units)
            kept = {(part, name) for part, _, name, _, _ in image.notes}
            for number, part in enumerate(unit.parts):
                for row in range(1, 60):
                    due = [stretch.name for stretch in part.stretches if row in dict((r, o) for o, r in stretch.lines)]
                    told = traced(unit, image, number, row)
                    if any((number, name) in kept for name in due):
                        self.assertEqual(told, ("bytes", bytes_of_row(image, number, row)))
                        self.assertTrue(told[1])
                    elif due:
                        self.assertEqual(told, ("left", sorted(due)))
                    else:
                        self.assertEqual(told, ("none",))

    def test_a_text_row_to_its_bytes_in_the_image(self):
        text = "part a\ntold x\ncode m 1\nx:\nset a 5\npoint p d\nhalt\ndata n 16\nd:\nbytes 1 2 3\nheld x\nroom o 1\nleave 9"
        unit = assemble(text)
        image = link([unit], "x")
        begins = {note[2]: begin for note, (begin, _, _, _) in zip(image.notes, image.stretches)}
        for row, (part, stretch, offset, many) in made_by(text).items():
            name = unit.parts[part].stretches[stretch].name
            if name in begins:
                begin = begins[name] + offset
                self.assertEqual(traced(unit, image, 0, row), ("bytes", [(begin, begin + many)]))
            else:
                self.assertEqual(traced(unit, image, 0, row), ("left", ["o"]))

    def test_what_is_told_may_be_changed(self):
        image = link([self.unit], "x")
        traced(self.unit, image, 0, 40)[1].clear()
        traced(self.unit, image, 0, 5)[1].clear()
        self.assertEqual(traced(self.unit, image, 0, 40), ("left", ["b", "z"]))
        self.assertEqual(traced(self.unit, image, 0, 5), ("bytes", [(0, 1)]))

    def test_without_notes_no_bytes_are_found(self):
        image = link([self.unit], "x")
        bare = Image(image.data, image.stretches, image.holds, image.entry)
        self.assertEqual(bytes_of_row(bare, 0, 5), [])


if __name__ == "__main__":
    unittest.main()
