"""[63], with [30], [32], [33], [61]: images stripped of their notes, and charts."""

import unittest

from byteround.bytesrows import sum_of
from byteround.errors import NoBytes, OtherImage
from byteround.imagebytes import image_bytes
from byteround.images import Image
from byteround.stripping import Chart, chart_bytes, read_chart, stripped, with_notes
from tests.anything import Number, Row, Rows, Text, anything, is_exact
from tests.samples import code_image, image_of
from tests.test_whole import linked_ones

NOTES = ((300, "lone", "m", (("b", 0), ("x", 2)), ((0, 200), (2, 0))), (0, "b", "abcdefgh", (("x", 199),), ((0, 60000),)))
NOTED = image_of(("code", 1, (0x60, 0, 0)), ("room", 2, 200), entry=2, notes=NOTES)
BARE = Image(NOTED.data, NOTED.stretches, NOTED.holds, NOTED.entry)
# 86, 3, table, data, stretches (200 as 129, 72), holds, entry, no notes, the sum.
BARE_THREE = (86, 3, 0, 3, 0x60, 0, 0, 2, 0, 3, 0, 1, 4, 129, 72, 2, 2, 0, 2, 0)
BARE_SUM = sum(BARE_THREE)
TOTAL = BARE_SUM + sum(divmod(BARE_SUM, 256))


def summed(row):
    return row + divmod(sum(row) % 65536, 256)


def spelled(name):
    return (len(name), *[ord(letter) for letter in name])


CHART_ROW = summed((
    88, 1, *divmod(TOTAL, 256), 5, *spelled("abcdefgh"), 1, 98, *spelled("lone"), 1, 109, 1, 120, 2,
    130, 44, 2, 3, 2, 1, 0, 4, 2, 2, 0, 129, 72, 2, 0,
    0, 1, 0, 1, 4, 129, 71, 1, 0, 131, 212, 96))
NO_NOTES_ROW = summed((88, 0, 1, 44))


class Stripped(unittest.TestCase):
    def test_with_notes(self):
        self.assertEqual(image_bytes(BARE, edition=3), summed(BARE_THREE))
        bare, chart = stripped(NOTED)
        self.assertEqual(bare, BARE)
        self.assertIsNone(bare.notes)
        self.assertEqual((chart.total, chart.notes), (TOTAL, NOTES))
        self.assertEqual(chart, Chart(TOTAL, NOTES))
        self.assertIs(type(stripped(NOTED)), tuple)
        self.assertEqual(NOTED.notes, NOTES)

    def test_without_notes_and_twice(self):
        self.assertEqual(stripped(BARE), (BARE, Chart(TOTAL, None)))
        self.assertIsNone(stripped(BARE)[1].notes)
        bare, _ = stripped(NOTED)
        self.assertEqual(stripped(bare), (BARE, Chart(TOTAL, None)))

    def test_the_total_is_a_rest(self):
        great = code_image(*(0xb7,) * 600)
        whole = image_bytes(great, edition=3)
        self.assertGreater(sum(whole), 65536)
        self.assertEqual(stripped(great)[1].total, sum(whole) % 65536)

    def test_whatever_images(self):
        for _, _, _, image in linked_ones(51, 20):
            bare, chart = stripped(image)
            self.assertEqual(with_notes(bare, chart), image)
            self.assertEqual(with_notes(image, chart), image)
            self.assertEqual(read_chart(chart_bytes(chart)), chart)
            self.assertEqual(chart.total, sum_of(image_bytes(bare, edition=3)))


class WithNotes(unittest.TestCase):
    def other(self, image, chart):
        with self.assertRaises(OtherImage, msg=(chart.total, chart.notes)) as caught:
            with_notes(image, chart)
        self.assertEqual(caught.exception, OtherImage(chart.total))

    def test_its_own(self):
        for image in (BARE, NOTED):
            self.assertEqual(with_notes(image, Chart(TOTAL, NOTES)), NOTED)
            self.assertEqual(with_notes(image, Chart(TOTAL, list(NOTES))), NOTED)
            self.assertEqual(with_notes(image, Chart(TOTAL, None)), BARE)
            self.assertIsNone(with_notes(image, Chart(TOTAL, None)).notes)
        self.assertEqual(with_notes(chart=Chart(notes=NOTES, total=TOTAL), image=BARE), NOTED)

    def test_other_notes_that_fit(self):
        notes = ((0, "q", "r", (), ((0, 7),)),) * 2
        self.assertEqual(with_notes(BARE, Chart(TOTAL, notes)).notes, notes)

    def test_another_total(self):
        for total in (TOTAL - 1, TOTAL + 1, TOTAL + 65536, 0, -TOTAL):
            self.other(BARE, Chart(total, NOTES))
            self.other(NOTED, Chart(total, NOTES))
            self.other(BARE, Chart(total, None))
        # Nor that of the image with its notes.
        self.other(NOTED, Chart(sum_of(image_bytes(NOTED, edition=3)), NOTES))

    def test_notes_that_make_none(self):
        for notes in ((), NOTES[:1], NOTES + NOTES[:1], NOTES[::-1], (None, None), (NOTES[0], list(NOTES[1])),
                      (NOTES[0], NOTES[1][:4] + (((0, 60001),),)), (NOTES[0], NOTES[1][:3] + ((("x", 200),), ((0, 1),)))):
            self.other(BARE, Chart(TOTAL, notes))
            self.other(NOTED, Chart(TOTAL, list(notes)))

    def test_of_anything(self):
        for thing in anything():
            if thing is not None:
                self.other(BARE, Chart(TOTAL, thing))
            self.other(BARE, Chart(thing, None))
            self.other(BARE, Chart(TOTAL, [thing, thing]))


class Charts(unittest.TestCase):
    def test_fields(self):
        chart = Chart(5, NOTES)
        self.assertEqual((chart.total, chart.notes), (5, NOTES))
        self.assertIsNone(Chart(0, None).notes)
        self.assertEqual(Chart(0, []).notes, ())
        self.assertEqual(Chart(0, ()).notes, ())
        self.assertTrue(is_exact([Chart(Number(5), Rows([Row((Number(3), Text("a")))])).total, Chart(5, Rows([Row((3, Text("a")))])).notes]))

    def test_lists_may_change_behind(self):
        notes = list(NOTES)
        chart = Chart(5, notes)
        notes.clear()
        self.assertEqual(chart.notes, NOTES)
        self.assertIs(type(chart.notes), tuple)

    def test_equal(self):
        self.assertTrue(Chart(5, NOTES) == Chart(5, list(NOTES)))
        self.assertTrue(Chart(5, None) == Chart(5, None))
        for other in (Chart(6, NOTES), Chart(5, NOTES[:1]), Chart(5, None), Chart(5, ()), NOTED, (5, NOTES), None):
            self.assertFalse(Chart(5, NOTES) == other)
            self.assertTrue(Chart(5, NOTES) != other)
        self.assertFalse(Chart(5, ()) == Chart(5, None))
        for thing in anything():
            self.assertFalse(Chart(7, ()) == thing)

    def test_bytes(self):
        self.assertEqual(chart_bytes(Chart(TOTAL, NOTES)), CHART_ROW)
        self.assertEqual(chart_bytes(Chart(300, None)), NO_NOTES_ROW)
        self.assertEqual(NO_NOTES_ROW, (88, 0, 1, 44, 0, 133))
        self.assertEqual(read_chart(CHART_ROW), Chart(TOTAL, NOTES))
        self.assertEqual(read_chart(NO_NOTES_ROW), Chart(300, None))
        self.assertIsNone(read_chart(NO_NOTES_ROW).notes)
        self.assertTrue(is_exact([read_chart(Row(Number(byte) for byte in CHART_ROW)).notes]))
        for total in (0, 255, 256, 65535):
            self.assertEqual(read_chart(chart_bytes(Chart(total, None))).total, total)

    def test_notes_of_some_image(self):
        # The last offset of the greatest stretch; parts in any order, names again.
        note = (10 ** 30, "z", "z", (("a", 0), ("b", 0), ("z", 3999)), ((0, 0), (1, 60000), (3999, 0)))
        for notes in ((note,), (note, note), (note, NOTES[0], note)):
            self.assertEqual(read_chart(chart_bytes(Chart(1, notes))), Chart(1, notes))


class NoCharts(unittest.TestCase):
    def refused(self, at, row):
        with self.assertRaises(NoBytes, msg=row) as caught:
            read_chart(row)
        self.assertEqual(caught.exception.at, at, row)

    def changed(self, at, *new, many=1, row=CHART_ROW):
        return summed((row[:at] + new + row[at + many:])[:-2])

    def test_of_anything(self):
        for thing in anything():
            self.refused(0, thing)
        self.refused(0, list(CHART_ROW))
        self.refused(0, CHART_ROW[:-1] + (True,))
        self.refused(0, ())
        for first in (85, 86, 87, 89, 0):
            self.refused(0, self.changed(0, first))

    def test_the_byte_of_notes(self):
        for byte in (2, 3, 128, 255):
            self.refused(1, self.changed(1, byte))
            self.refused(1, self.changed(1, byte, row=NO_NOTES_ROW))
        # The table is no sum.
        self.refused(4, self.changed(1, 0))
        # The sum is a table, of too few bytes.
        self.refused(6, NO_NOTES_ROW[:1] + (1,) + NO_NOTES_ROW[2:4] + (5, 1))

    def test_cut_and_too_long(self):
        for row in (CHART_ROW, NO_NOTES_ROW):
            for many in range(len(row)):
                self.refused(many, row[:many])
            self.refused(len(row), row + (0,))
            self.refused(len(row) - 2, row[:-1] + ((row[-1] + 1) % 256,))

    def test_the_table(self):
        # abcdefgh at 5, b at 14, lone at 16, m at 21, x at 23, how many notes at 25.
        self.assertEqual((CHART_ROW[14:16], CHART_ROW[21:26]), ((1, 98), (1, 109, 1, 120, 2)))
        for at in (5, 14, 16, 21, 23):
            self.refused(at, self.changed(at, 0))
            self.refused(at, self.changed(at + 1, 96))
            self.refused(at, self.changed(at + 1, 123))
        self.refused(5, self.changed(5, 9))
        self.refused(14, self.changed(15, 97))
        self.refused(21, self.changed(22, 98))
        self.refused(23, self.changed(24, 109))
        self.refused(4, self.changed(4, 128))
        # A name that nothing has, ahead of notes that are none, behind the sum and all bytes.
        unused = (88, 1, 0, 0, 1, 1, 97, 0)
        self.refused(5, summed(unused))
        self.refused(len(unused), unused + (9, 9))
        self.refused(len(unused) + 2, summed(unused) + (0,))
        row = self.changed(4, 6)
        self.refused(25, summed(row[:25] + (1, 121) + row[25:-2]))

    def test_notes_field_by_field(self):
        # The first note at 26: number 130 44, names 2 3, labels 2 1 0 4 2, lines 2 0 129 72 2 0.
        self.assertEqual(CHART_ROW[26:41], (130, 44, 2, 3, 2, 1, 0, 4, 2, 2, 0, 129, 72, 2, 0))
        for at in (25, 26, 28, 29, 30, 31, 32, 33, 34, 35, 36, 37, 39, 40):
            self.refused(at, self.changed(at, 128))
            self.refused(at, self.changed(at, 128)[:at + 1])
        for at in (28, 29, 31, 33):
            self.refused(at, self.changed(at, 5))

    def test_notes_of_no_image(self):
        def refused_at_the_length(notes):
            row = chart_bytes(Chart(5, notes))
            self.refused(len(row), row)
        refused_at_the_length(())
        good = (0, "a", "b", (("x", 0),), ((0, 1),))
        for k, part in ((3, (("x", 4000),)), (3, (("x", 1), ("y", 0))), (3, (("y", 0), ("x", 0))), (3, (("x", 0), ("x", 0))),
                        (3, (("x", 0), ("x", 1))), (4, ()), (4, ((1, 1),)), (4, ((0, 60001),)), (4, ((0, 1), (0, 2))),
                        (4, ((0, 1), (4000, 2))), (4, ((0, 1), (1, 1))), (4, ((0, 1), (2, 2), (1, 3)))):
            bad = good[:k] + (part,) + good[k + 1:]
            refused_at_the_length((bad,))
            refused_at_the_length((good, bad, good))

    def test_each_byte_changed_left_out_put_in(self):
        for row in (CHART_ROW, NO_NOTES_ROW):
            strange = []
            for at in range(len(row)):
                strange += [row[:at] + (byte,) + row[at + 1:] for byte in
                            {0, 1, 2, 97, 127, 128, 255, (row[at] + 1) % 256, (row[at] - 1) % 256} - {row[at]}]
                strange += [row[:at] + row[at + 1:]] + [row[:at] + (byte,) + row[at:] for byte in (0, 1, 97, 128, 255)]
            for other in strange + [summed(other[:-2]) for other in strange]:
                try:
                    chart = read_chart(other)
                except NoBytes as refusal:
                    self.assertTrue(0 <= refusal.at <= len(other))
                    continue
                self.assertEqual(chart_bytes(chart), other)


if __name__ == "__main__":
    unittest.main()
