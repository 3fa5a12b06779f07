"""[61], [30], [32], [33]: images as bytes, in three editions."""

import random
import unittest

from byteround.bytesrows import long_of
from byteround.errors import NoBytes, NoEdition
from byteround.imagebytes import image_bytes, least_image_edition, read_image
from byteround.images import Image
from byteround.linking import link
from tests.anything import Number, Row, anything, is_exact
from tests.chance import chance_unit
from tests.samples import code_image, image_of


def summed(row):
    return row + divmod(sum(row) % 65536, 256)


def spelled(name):
    return (len(name), *[ord(letter) for letter in name])


# code 0 to 6, data 8 to 12.
SMALL = image_of(("code", 1, (0x70, 0, 0, 0x61, 0, 0, 0)), ("data", 8, (9, 0, 0, 0, 0)),
                 holds=((1, 9), (4, 0), (9, None), (11, 12)))
SMALL_ONE = (
    86, 1, 13, 0x70, 0, 9, 0x61, 0, 0, 0, 0, 9, 0, 0, 0, 12,
    2, 0, 7, 0, 1, 8, 5, 1, 8, 4, 1, 1, 9, 4, 1, 0, 9, 0, 11, 1, 12, 0)
SMALL_TWO = (
    86, 2, 0, 13, 0x70, 0, 9, 0x61, 0, 0, 0, 0, 9, 0, 0, 0, 12,
    0, 2, 0, 0, 0, 7, 0, 1, 0, 8, 0, 5, 1, 8, 0, 4, 0, 1, 1, 0, 9, 0, 4, 1, 0, 0, 0, 9, 0, 0, 11, 1, 0, 12, 0, 0)
SMALL_THREE = summed((
    86, 3, 0, 13, 0x70, 0, 9, 0x61, 0, 0, 0, 0, 9, 0, 0, 0, 12,
    2, 0, 7, 0, 1, 8, 5, 1, 8, 4, 1, 1, 9, 4, 1, 0, 9, 0, 11, 1, 12, 0, 0))

# With a room, and notes.
NOTED = image_of(
    ("code", 1, (0x60, 0, 0)), ("room", 2, 200), entry=2,
    notes=((300, "lone", "m", (("b", 0), ("x", 2)), ((0, 200), (2, 0))), (0, "b", "abcdefgh", (("x", 199),), ((0, 60000),))))
NOTED_THREE = summed((
    86, 3, 5, *spelled("abcdefgh"), 1, 98, *spelled("lone"), 1, 109, 1, 120, 3, 0x60, 0, 0,
    2, 0, 3, 0, 1, 4, 129, 72, 2, 2, 0, 2,
    1, 130, 44, 2, 3, 2, 1, 0, 4, 2, 2, 0, 129, 72, 2, 0,
    0, 1, 0, 1, 4, 129, 71, 1, 0, 131, 212, 96))


def bare(image):
    return Image(image.data, image.stretches, image.holds, image.entry)


class Case(unittest.TestCase):
    def refused(self, at, row):
        with self.assertRaises(NoBytes, msg=row) as caught:
            read_image(row)
        self.assertEqual(caught.exception.at, at, row)

    def not_borne(self, edition, what, image):
        with self.assertRaises(NoEdition) as caught:
            image_bytes(image, edition=edition)
        self.assertEqual(caught.exception, NoEdition(edition, what))
        self.assertGreater(least_image_edition(image), edition)

    def back(self, image):
        least = least_image_edition(image)
        for edition in range(least, 4):
            row = image_bytes(image, edition=edition)
            self.assertEqual(row[:2], (86, edition))
            self.assertEqual(read_image(row), image)
        self.assertEqual(image_bytes(image), image_bytes(image, edition=least))


class Bytes(Case):
    def test_each_edition(self):
        self.assertEqual(image_bytes(SMALL), SMALL_ONE)
        self.assertEqual(image_bytes(SMALL, edition=1), SMALL_ONE)
        self.assertEqual(image_bytes(SMALL, edition=2), SMALL_TWO)
        self.assertEqual(image_bytes(SMALL, edition=3), SMALL_THREE)
        for row in (SMALL_ONE, SMALL_TWO, SMALL_THREE):
            self.assertEqual(read_image(row), SMALL)

    def test_notes(self):
        self.assertEqual(image_bytes(NOTED), NOTED_THREE)
        self.assertEqual(read_image(NOTED_THREE), NOTED)
        self.assertEqual(image_bytes(bare(NOTED)), (
            86, 2, 0, 3, 0x60, 0, 0, 0, 2, 0, 0, 0, 3, 0, 1, 0, 4, 0, 200, 2, 2, 0, 0, 0, 2))
        self.back(NOTED)
        self.back(bare(NOTED))

    def test_the_least_one(self):
        self.assertEqual(image_bytes(code_image(0)), (86, 1, 1, 0, 1, 0, 1, 0, 1, 0, 0))
        self.back(code_image(0))
        self.back(code_image(0, room=1))

    def test_a_part_number_of_whatever_size(self):
        for number in (127, 128, 65536, 10 ** 40):
            image = Image((0,), ((0, 1, "code", 1),), (), 0, notes=((number, "a", "a", (), ((0, 0),)),))
            row = image_bytes(image)
            # Behind it two names, no labels, one line, the sum.
            self.assertEqual(row[:-8][-len(long_of(number)) - 1:], (1, *long_of(number)))
            self.back(image)

    def test_numbers(self):
        # The size of the data, of a stretch, a begin, a target, an entry.
        for many in (126, 127, 128, 254, 255, 256, 257, 4000):
            self.back(image_of(("data", 1, (5,) * (many - 1)), ("code", 1, (0,)), entry=many - 1))
            self.back(image_of(("code", 1, (0x70, 0, 0, 0)), ("data", 1, (5,) * many), holds=((1, many + 3),)))

    def test_exactly_the_builtin_kinds(self):
        for row in (SMALL_ONE, SMALL_TWO, SMALL_THREE, NOTED_THREE):
            image = read_image(Row(Number(byte) for byte in row))
            self.assertTrue(is_exact([image.data, image.stretches, image.holds, image.entry, image.notes]))
            self.assertTrue(is_exact([image_bytes(image, edition=Number(3)), least_image_edition(image)]))

    def test_whatever_images(self):
        chance = random.Random(17)
        made = 0
        while made < 80:
            units = [chance_unit(chance, k, 2, told=0.8, soft=0.95) for k in range(2)]
            for name in units[0].parts[0].told:
                try:
                    image = link(units, name, keep=units[1].parts[0].told)
                except (KeyError, LookupError, TypeError):
                    continue
                made += 1
                self.back(image)
                self.back(bare(image))


class Editions(Case):
    def test_rooms(self):
        room = code_image(0, room=1)
        self.not_borne(1, "room", room)
        self.assertEqual(least_image_edition(room), 2)

    def test_notes(self):
        noted = Image((0,), ((0, 1, "code", 1),), (), 0, notes=((0, "a", "a", (), ((0, 0),)),))
        self.not_borne(1, "notes", noted)
        self.not_borne(2, "notes", noted)
        self.assertEqual(least_image_edition(noted), 3)

    def test_numbers_of_edition_1(self):
        images = [
            image_of(("data", 1, (5,) * 255), ("code", 1, (0,)), entry=255),
            image_of(("code", 1, (0,) * 256)), image_of(("code", 1, (0,)), ("data", 1, (5,) * 255)),
            image_of(*[("code", 1, (0,))] * 256)]
        for image in images:
            self.not_borne(1, "number", image)
            self.assertEqual(least_image_edition(image), 2)
            self.back(image)
        for image in (image_of(("code", 1, (0,) * 255)), image_of(*[("code", 1, (0,))] * 255),
                      image_of(("data", 1, (5,) * 254), ("code", 1, (0,)), entry=254),
                      image_of(("code", 1, (0x70, 0, 0)), ("data", 1, (5,) * 252), holds=((1, 254),))):
            self.assertEqual(least_image_edition(image), 1)
            self.back(image)

    def test_numbers_that_two_bytes_have_no_room_for(self):
        rooms = [("room", 1, 4000)] * 17
        great = image_of(("code", 1, (0,)), *rooms)
        self.assertEqual(great.stretches[-1][0], 64001)
        self.assertEqual(least_image_edition(great), 2)
        self.back(great)
        for more, least in ((0, 2), (1, 3)):
            edge = image_of(("code", 1, (0,)), *rooms[:16], ("room", 1, 1534 + more), ("room", 1, 5))
            self.assertEqual(edge.stretches[-1][0], 65535 + more)
            self.assertEqual(least_image_edition(edge), least)
            self.back(edge)
        greater = image_of(("code", 1, (0,)), *rooms, ("room", 1, 1))
        self.assertEqual(greater.stretches[-1][0], 68001)
        self.not_borne(2, "number", greater)
        self.assertEqual(least_image_edition(greater), 3)
        self.back(greater)

    def test_two_at_once(self):
        note = (0, "a", "a", (), ((0, 0),))
        for lacks in range(1, 8):
            specs = [("code", 1, (0,))]
            if lacks & 4:
                specs.append(("data", 1, (7,) * 300))
            if lacks & 1:
                specs.append(("room", 1, 3))
            image = image_of(*specs, notes=[note] * len(specs) if lacks & 2 else None)
            self.not_borne(1, "room" if lacks & 1 else "notes" if lacks & 2 else "number", image)
            if lacks & 2:
                self.not_borne(2, "notes", image)
            self.assertEqual(least_image_edition(image), 3 if lacks & 2 else 2)
            self.back(image)
        rooms = [("room", 1, 4000)] * 18
        greater = image_of(("code", 1, (0,)), *rooms, notes=[note] * 19)
        self.not_borne(2, "notes", greater)
        self.not_borne(1, "room", greater)


class NoRows(Case):
    rows = (SMALL_ONE, SMALL_TWO, SMALL_THREE, NOTED_THREE)

    def test_of_anything(self):
        for thing in anything():
            self.refused(0, thing)
        for row in self.rows:
            self.refused(0, list(row))
            self.refused(0, row[:-1] + (256,))
            self.refused(0, row[:-1] + (False,))

    def test_the_first_two(self):
        for row in self.rows:
            for first in (85, 87, 88, 0):
                self.refused(0, (first,) + row[1:])
            for edition in (0, 4, 86):
                self.refused(1, row[:1] + (edition,) + row[2:])
        self.refused(0, ())
        self.refused(1, (86,))

    def test_cut(self):
        for row in self.rows:
            for many in range(len(row)):
                self.refused(many, row[:many])

    def test_a_byte_behind_all_and_the_sum(self):
        for row in self.rows:
            self.refused(len(row), row + (0,))
        for row in self.rows[2:]:
            self.refused(len(row) - 2, row[:-1] + ((row[-1] + 1) % 256,))
            self.refused(len(row) - 2, row[:-2] + ((row[-2] + 1) % 256, row[-1], 0))

    def test_each_byte_changed_left_out_put_in(self):
        for row in self.rows:
            strange = []
            for at in range(len(row)):
                strange += [row[:at] + (byte,) + row[at + 1:] for byte in
                            {0, 1, 2, 3, 97, 127, 128, 255, (row[at] + 1) % 256, (row[at] - 1) % 256} - {row[at]}]
                strange += [row[:at] + row[at + 1:]] + [row[:at] + (byte,) + row[at:] for byte in (0, 1, 97, 128, 255)]
            if row[1] == 3:
                strange += [summed(other[:-2]) for other in strange]
            for other in strange:
                try:
                    image = read_image(other)
                except NoBytes as refusal:
                    self.assertTrue(0 <= refusal.at <= len(other))
                    continue
                self.assertEqual(image_bytes(image, edition=other[1]), other)


class Fields(Case):
    def changed(self, row, at, *new, many=1):
        other = row[:at] + new + row[at + many:]
        return summed(other[:-2]) if row[1] == 3 else other

    def test_sizes(self):
        self.assertEqual(SMALL_ONE[16:20], (2, 0, 7, 0))
        self.refused(18, self.changed(SMALL_ONE, 18, 0))
        self.assertEqual(SMALL_TWO[17:25], (0, 2, 0, 0, 0, 7, 0, 1))
        for size in ((0, 0), (15, 161), (255, 255)):
            self.refused(21, self.changed(SMALL_TWO, 21, *size, many=2))
        self.assertEqual(SMALL_THREE[17:22], (2, 0, 7, 0, 1))
        for size in ((0,), (159, 33), (255, 255, 127)):
            self.refused(19, self.changed(SMALL_THREE, 19, *size))

    def test_kinds_and_steps(self):
        for byte in (2, 3, 255):
            self.refused(19, self.changed(SMALL_ONE, 19, byte))
        for byte in (3, 4, 255):
            self.refused(23, self.changed(SMALL_TWO, 23, byte))
            self.refused(20, self.changed(SMALL_THREE, 20, byte))
        # A room that makes no image.
        self.refused(len(SMALL_TWO), self.changed(SMALL_TWO, 23, 2))
        for byte in (0, 3, 5, 17, 32, 255):
            self.refused(20, self.changed(SMALL_ONE, 20, byte))
            self.refused(24, self.changed(SMALL_TWO, 24, byte))
            self.refused(21, self.changed(SMALL_THREE, 21, byte))

    def test_bytes_ahead_of_a_target(self):
        begin = SMALL_ONE.index(4, 21)
        self.assertEqual(SMALL_ONE[begin:begin + 4], (4, 1, 1, 9))
        for byte in (2, 3, 128, 255):
            self.refused(begin + 2, self.changed(SMALL_ONE, begin + 2, byte))
            self.refused(begin + 8, self.changed(SMALL_ONE, begin + 8, byte))
        self.assertEqual(SMALL_ONE[begin + 7:begin + 9], (9, 0))
        at = SMALL_THREE.index(4, 24)
        self.assertEqual(SMALL_THREE[at:at + 4], (4, 1, 1, 9))
        for byte in (2, 128):
            self.refused(at + 2, self.changed(SMALL_THREE, at + 2, byte))

    def test_the_byte_ahead_of_notes(self):
        at = len(SMALL_THREE) - 3
        for byte in (2, 3, 128, 255):
            self.refused(at, self.changed(SMALL_THREE, at, byte))
        # Notes that aren't there: the sum is read as such, up to the end.
        end = len(SMALL_THREE)
        self.refused(end, self.changed(SMALL_THREE, at, 1))
        where = NOTED_THREE.index(130)
        self.assertEqual(NOTED_THREE[where - 1:where + 2], (1, 130, 44))
        self.refused(where - 1, self.changed(NOTED_THREE, where - 1, 2))

    def test_what_makes_no_image(self):
        for at, *new in ((3, 2), (5, 8), (5, 7), (10, 1), (17, 1), (18, 5), (18, 9), (19, 1), (21, 9), (22, 4), (22, 6), (23, 0),
                         (24, 16), (26, 2), (28, 10), (37, 1), (37, 7), (37, 200)):
            other = self.changed(SMALL_ONE, at, *new)
            self.refused(len(other), other)
        # No stretches at all.
        self.refused(6, (86, 1, 0, 0, 0, 0))
        self.refused(10, (86, 2) + (0,) * 8)
        none = summed((86, 3, 0, 0, 0, 0, 0, 0))
        self.refused(len(none), none)
        none = summed((86, 3, 0, 0, 0, 0, 0, 1))
        self.refused(len(none), none)
        # Notes that are none: labels not rising, a line beyond.
        for at, byte in ((len(NOTED_THREE) - 3, 97), (len(NOTED_THREE) - 7, 127)):
            other = self.changed(NOTED_THREE, at, byte)
            self.refused(len(other), other)

    def test_an_unused_name_ahead_of_what_makes_no_image(self):
        bad = (0, 0, 0, 0, 0)
        self.refused(3, summed((86, 3, 1, 1, 97) + bad))
        self.refused(5, summed((86, 3, 2, 1, 97, 1, 98, 1, 0, 1, 0, 1, 0, 1, 0, 0, 1, 0, 0, 0, 0, 1, 0, 0)))
        good = (86, 3, 1, 1, 97, 1, 0, 1, 0, 1, 0, 1, 0, 0, 1, 0, 0, 0, 0, 1, 0, 0)
        self.assertEqual(read_image(summed(good)).notes, ((0, "a", "a", (), ((0, 0),)),))
        self.refused(len(good) + 2, summed(good[:-2] + (1, 0)))
        # A byte behind all goes ahead of the name.
        other = summed((86, 3, 1, 1, 97) + bad)
        self.refused(len(other), other + (0,))

    def test_names(self):
        # The table of NOTED: abcdefgh at 3, b at 12, lone at 14, m at 19, x at 21.
        self.assertEqual(NOTED_THREE[12:23], (1, 98, 4, 108, 111, 110, 101, 1, 109, 1, 120))
        for at in (3, 12, 14, 19, 21):
            self.refused(at, self.changed(NOTED_THREE, at, 0))
            self.refused(at, self.changed(NOTED_THREE, at + 1, 96))
        self.refused(19, self.changed(NOTED_THREE, 20, 98))
        where = NOTED_THREE.index(130) + 2
        self.assertEqual(NOTED_THREE[where:where + 2], (2, 3))
        for number in (5, 6, 127):
            self.refused(where, self.changed(NOTED_THREE, where, number))
        self.refused(where, self.changed(NOTED_THREE, where, 128))

    def test_numbers_that_begin_with_128(self):
        for at in (2, 3, 17, 18, 19, 22):
            self.refused(at, self.changed(SMALL_THREE, at, 128))
            self.refused(at, SMALL_THREE[:at] + (128,))

    def test_lengths_beyond_all_bytes(self):
        row = (86, 3, 0, 255, 255, 255, 255, 127) + (0,) * 9
        self.refused(len(row), row)
        row = (86, 2, 255, 255) + (0,) * 9
        self.refused(len(row), row)
        row = (86, 3, 0, 0, 255, 255, 127) + (1,) * 8
        self.refused(len(row), row)


if __name__ == "__main__":
    unittest.main()
