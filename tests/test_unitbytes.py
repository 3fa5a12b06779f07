"""[30] to [34], [4]: units as bytes, in three editions."""

import unittest

from byteround.bytesrows import long_of, sum_of
from byteround.errors import NoBytes, NoEdition
from byteround.things import Part, Stretch, Unit
from byteround.unitbytes import edition_of, least_edition, lowered, moved, read_unit, unit_bytes
from tests.anything import Number, Row, anything, is_exact
from tests.chance import chance_units


def spelled(name):
    return (len(name), *[ord(letter) for letter in name])


def summed(row):
    return row + divmod(sum(row) % 65536, 256)


def long_row(number):
    return long_of(number)


# A unit that each edition bears.
SMALL = Unit([Part("p", told=("x",), stretches=[
    Stretch("main", kind="code", data=(0x60, 0, 0x61, 0, 0, 0), labels=(("x", 0), ("y", 5)),
            holds=((1, "near", "y", 0), (3, "full", "far", 0))),
    Stretch("d", kind="data", data=(7, 0, 0), holds=((1, "full", "x", 200),)),
    Stretch("r", kind="room", size=255, labels=(("z", 254),))])])

SMALL_ONE = (
    85, 1, 1, 112, 3,
    4, 109, 97, 105, 110, 0, 6, 0x60, 0, 0x61, 0, 0, 0, 2, 1, 0, 1, 121, 0, 3, 1, 3, 102, 97, 114, 0,
    2, 1, 120, 0, 1, 121, 5,
    1, 100, 1, 3, 7, 0, 0, 1, 1, 1, 1, 120, 200, 0,
    1, 114, 2, 255, 0, 1, 1, 122, 254,
    1, 1, 120)

SMALL_TWO = (
    85, 2, 1, 112, 0, 3,
    4, 109, 97, 105, 110, 0, 1, 0, 6, 0x60, 0, 0x61, 0, 0, 0, 0, 2, 0, 1, 0, 1, 121, 0, 0, 0, 3, 1, 3, 102, 97, 114, 0, 0,
    0, 2, 1, 120, 0, 0, 1, 121, 0, 5, 0, 1, 0, 0, 0, 0,
    1, 100, 1, 1, 0, 3, 7, 0, 0, 0, 1, 0, 1, 1, 1, 120, 0, 200, 0, 0, 0, 1, 0, 0, 0, 0,
    1, 114, 2, 1, 0, 255, 0, 0, 0, 1, 1, 122, 0, 254, 0, 1, 0, 0, 0, 0,
    0, 1, 1, 120, 0, 0, 0, 0)

# The table: d, far, main, p, r, x, y, z.
SMALL_THREE = summed((
    85, 3, 8, 1, 100, 3, 102, 97, 114, 4, 109, 97, 105, 110, 1, 112, 1, 114, 1, 120, 1, 121, 1, 122,
    1, 3, 3,
    2, 0, 1, 6, 0x60, 0, 0x61, 0, 0, 0, 2, 1, 0, 6, 0, 3, 1, 1, 0, 2, 5, 0, 6, 5, 1, 0, 0,
    0, 1, 1, 3, 7, 0, 0, 1, 1, 1, 5, 129, 72, 0, 1, 0, 0,
    4, 2, 1, 129, 127, 0, 1, 7, 129, 126, 1, 0, 0,
    1, 5, 0, 0))

# A unit that is in need of edition 3, with all that edition 1 lacks.
GREAT = Unit([
    Part("longer", told=("b",), weak=("c",), soft=("gone",), stretches=[
        Stretch("m", kind="code", step=4, data=(0x70, 0, 0, 0), labels=(("b", 0), ("c", 3)),
                holds=((1, "full", "gone", 16384),), lines=((0, 16383), (3, 0))),
        Stretch("n", kind="room", step=16, size=4000, lines=((0, 60000),))]),
    Part("p")])


def lone(*stretches, name="a", **more):
    return Unit([Part(name, stretches=stretches, **more)])


def data(many=1, name="m", **more):
    return Stretch(name, kind="data", data=(0,) * many, **more)


class Case(unittest.TestCase):
    def refused(self, at, row):
        for ask in (read_unit, edition_of, lambda row: moved(row, 3)):
            with self.assertRaises(NoBytes, msg=row) as caught:
                ask(row)
            self.assertEqual(caught.exception.at, at, row)

    def not_borne(self, edition, what, unit):
        with self.assertRaises(NoEdition) as caught:
            unit_bytes(unit, edition=edition)
        self.assertEqual(caught.exception, NoEdition(edition, what))
        self.assertGreater(least_edition(unit), edition)

    def back(self, unit):
        """The unit comes back from each edition that bears it."""
        for edition in range(least_edition(unit), 4):
            row = unit_bytes(unit, edition=edition)
            self.assertEqual((read_unit(row), edition_of(row)), (unit, edition))
        self.assertEqual(unit_bytes(unit), unit_bytes(unit, edition=least_edition(unit)))


class Bytes(Case):
    def test_edition_1(self):
        self.assertEqual(unit_bytes(SMALL, edition=1), SMALL_ONE)
        self.assertEqual(unit_bytes(SMALL), SMALL_ONE)
        self.assertEqual(read_unit(SMALL_ONE), SMALL)

    def test_edition_2(self):
        self.assertEqual(unit_bytes(SMALL, edition=2), SMALL_TWO)
        self.assertEqual(read_unit(SMALL_TWO), SMALL)

    def test_edition_3(self):
        self.assertEqual(unit_bytes(SMALL, edition=3), SMALL_THREE)
        self.assertEqual(read_unit(SMALL_THREE), SMALL)

    def test_a_great_unit(self):
        self.assertEqual(unit_bytes(GREAT), summed((
            85, 3, 7, *spelled("b"), *spelled("c"), *spelled("gone"), *spelled("longer"), *spelled("m"), *spelled("n"),
            *spelled("p"),
            2, 3, 2,
            4, 0, 4, 4, 0x70, 0, 0, 0, 1, 1, 1, 2, 129, 128, 0, 2, 0, 0, 1, 3, 2, 0, 255, 127, 3, 0,
            5, 2, 16, 159, 32, 0, 0, 1, 0, 131, 212, 96,
            1, 0, 1, 1, 1, 2,
            6, 0, 0, 0, 0)))
        self.back(GREAT)

    def test_edition_2_of_what_1_lacks(self):
        unit = Unit(GREAT.parts[:1])
        self.assertEqual(unit_bytes(unit), (
            85, 2, *spelled("longer"), 0, 2,
            1, 109, 0, 4, 0, 4, 0x70, 0, 0, 0, 0, 1, 0, 1, 1, *spelled("gone"), 64, 0, 0, 2, 1, 98, 0, 0, 1, 99, 0, 3,
            0, 2, 0, 0, 63, 255, 0, 3, 0, 0,
            1, 110, 2, 16, 15, 160, 0, 0, 0, 0, 0, 1, 0, 0, 234, 96,
            0, 1, 1, 98, 0, 1, 1, 99, 0, 1, *spelled("gone")))
        self.back(unit)

    def test_a_part_without_anything(self):
        self.assertEqual(unit_bytes(Unit([Part("a")])), (85, 1, 1, 97, 0, 0))
        self.assertEqual(unit_bytes(Unit([Part("a")]), edition=2), (85, 2, 1, 97, 0, 0, 0, 0, 0, 0, 0, 0))
        self.assertEqual(unit_bytes(Unit([Part("a")]), edition=3), summed((85, 3, 1, 1, 97, 1, 0, 0, 0, 0, 0)))

    def test_numbers(self):
        for number in (0, 1, 127, 128, 255, 256, 16383, 16384, 65535):
            unit = lone(Stretch("m", kind="data", data=(0, 0), holds=((0, "full", "x", number),)))
            self.assertEqual(least_edition(unit), 1 if number < 256 else 2)
            self.back(unit)
            row = unit_bytes(unit, edition=3)
            self.assertEqual(row[-2 - 7 - len(long_row(number)):-9], long_row(number), number)
        for size in (1, 127, 128, 255, 256, 4000):
            for unit in (lone(data(size)), lone(Stretch("m", kind="room", size=size))):
                self.assertEqual(least_edition(unit), 1 if size < 256 else 2)
                self.back(unit)

    def test_names(self):
        for name in ("a", "z", "abcd", "abcde", "abcdefgh"):
            for unit in (lone(name=name), lone(data(name=name)), lone(data(labels=((name, 0),))),
                         lone(data(2, holds=((0, "full", name, 0),)))):
                self.assertEqual(least_edition(unit), 1 if len(name) < 5 else 2)
                self.back(unit)

    def test_the_table_has_each_name_once(self):
        unit = Unit([Part("a", told=("a",), stretches=[data(3, name="a", labels=(("a", 0),))]), Part("a"), Part("b")])
        row = unit_bytes(unit)
        self.assertEqual(row[:7], (85, 3, 2, 1, 97, 1, 98))
        self.back(unit)

    def test_exactly_the_builtin_kinds(self):
        for edition in (1, 2, 3):
            row = Row(Number(byte) for byte in unit_bytes(SMALL, edition=edition))
            unit = read_unit(row)
            self.assertTrue(is_exact([unit_bytes(unit, edition=Number(edition)), edition_of(row), least_edition(unit)]))
            for part in unit.parts:
                self.assertTrue(is_exact([part.name, part.told, part.weak, part.soft]))
                for stretch in part.stretches:
                    self.assertTrue(is_exact([
                        stretch.name, stretch.kind, stretch.step, stretch.data, stretch.size, stretch.labels,
                        stretch.holds, stretch.lines]))

    def test_whatever_unit(self):
        for unit in chance_units(2, 150):
            self.back(unit)


class Editions(Case):
    def test_parts(self):
        two = Unit([Part("a"), Part("b")])
        self.not_borne(1, "parts", two)
        self.not_borne(2, "parts", two)
        self.assertEqual(least_edition(two), 3)

    def test_each_that_1_lacks(self):
        full = Stretch("m", kind="data", data=(0,) * 6, labels=(("x", 0), ("y", 4)), holds=((2, "full", "z", 0),))
        lacks = {
            "name": [lone(name="abcde"), lone(data(name="abcde")), lone(data(labels=(("abcde", 0),))),
                     lone(data(2, holds=((0, "full", "abcde", 0),)))],
            "step": [lone(data(step=step)) for step in (2, 4, 8, 16)],
            "line": [lone(data(lines=((0, 1),))), lone(data(2, lines=((0, 0), (1, 5)))), lone(data(2, lines=((0, 5), (1, 0))))],
            "weak": [lone(full, weak=("x",))],
            "soft": [lone(full, soft=("z",))],
            "number": [
                lone(data(256)), lone(Stretch("m", kind="room", size=256)),
                lone(data(2, holds=((0, "full", "x", 256),))), lone(*[data(name=letters(k)) for k in range(256)]),
                lone(Stretch("m", kind="code", data=(0,) * 4000))]}
        for what, units in lacks.items():
            for unit in units:
                self.not_borne(1, what, unit)
                self.assertEqual(least_edition(unit), 2)
                self.back(unit)
        self.assertEqual(least_edition(lone(full, told=("x", "y"))), 1)
        self.assertEqual(least_edition(lone(*[data(name=letters(k)) for k in range(255)])), 1)
        self.assertEqual(least_edition(lone(data(255, labels=(("a", 254),)))), 1)

    def test_several_at_once(self):
        def unit(lacks):
            stretch = Stretch(
                "mmmmm" if "name" in lacks else "m", kind="data", data=(0,) * (300 if "number" in lacks else 30),
                step=2 if "step" in lacks else 1, lines=((0, 7),) if "line" in lacks else ((0, 0),),
                labels=(("x", 0),), holds=((2, "full", "z", 0),))
            part = Part("a", stretches=[stretch], weak=("x",) * ("weak" in lacks), soft=("z",) * ("soft" in lacks))
            return Unit([part] * (2 if "parts" in lacks else 1))
        order = ("parts", "name", "step", "line", "weak", "soft", "number")
        for k in range(128):
            lacks = [order[n] for n in range(7) if k >> n & 1]
            made = unit(lacks)
            if lacks:
                self.not_borne(1, lacks[0], made)
            if "parts" in lacks:
                self.not_borne(2, "parts", made)
            self.assertEqual(least_edition(made), 3 if "parts" in lacks else 2 if lacks else 1)
            self.back(made)


def letters(number):
    return "".join("abcdefghijklmnop"[number // 16 ** k % 16] for k in (1, 0))


class NoRows(Case):
    def test_of_anything(self):
        for thing in anything():
            self.refused(0, thing)
        for row in (SMALL_ONE, SMALL_TWO, SMALL_THREE):
            self.refused(0, list(row))
            self.refused(0, row[:-1] + (256,))
            self.refused(0, row[:-1] + (True,))
            self.refused(0, row + (-1,))

    def test_the_first_two(self):
        for row in (SMALL_ONE, SMALL_TWO, SMALL_THREE):
            for first in (84, 86, 87, 0, 255):
                self.refused(0, (first,) + row[1:])
            for edition in (0, 4, 85, 255):
                self.refused(1, row[:1] + (edition,) + row[2:])
                self.refused(1, (85, edition))
        self.refused(0, ())
        self.refused(0, (84,))
        self.refused(1, (85,))

    def test_cut(self):
        for row in (SMALL_ONE, SMALL_TWO, SMALL_THREE, unit_bytes(GREAT), unit_bytes(Unit(GREAT.parts[:1]))):
            for many in range(len(row)):
                self.refused(many, row[:many])

    def test_a_byte_behind_all(self):
        for row in (SMALL_ONE, SMALL_TWO, SMALL_THREE, unit_bytes(GREAT)):
            for more in ((0,), (1, 2, 3)):
                self.refused(len(row), row + more)

    def test_each_byte_changed_left_out_put_in(self):
        """What is read all the same is written as just these bytes."""
        for row in (SMALL_ONE, SMALL_TWO, SMALL_THREE, unit_bytes(GREAT), unit_bytes(Unit(GREAT.parts[:1]))):
            strange = []
            for at in range(len(row)):
                strange += [row[:at] + (byte,) + row[at + 1:] for byte in
                            {0, 1, 2, 3, 97, 127, 128, 255, (row[at] + 1) % 256, (row[at] - 1) % 256} - {row[at]}]
                strange += [row[:at] + row[at + 1:]] + [row[:at] + (byte,) + row[at:] for byte in (0, 1, 97, 128, 255)]
            read = 0
            for other in strange:
                try:
                    unit = read_unit(other)
                except NoBytes as refusal:
                    self.assertTrue(0 <= refusal.at <= len(other))
                    continue
                read += 1
                self.assertEqual(unit_bytes(unit, edition=edition_of(other)), other)
            self.assertGreater(len(strange), 5 * read)

    def test_with_the_right_sum_too(self):
        row = unit_bytes(GREAT)[:-2]
        for at in range(2, len(row)):
            for byte in {0, 1, 2, 3, 97, 127, 128, 255, row[at] + 1, row[at] - 1} - {row[at], 256, -1}:
                other = summed(row[:at] + (byte,) + row[at + 1:])
                try:
                    unit = read_unit(other)
                except NoBytes as refusal:
                    self.assertTrue(2 <= refusal.at <= len(other))
                    continue
                self.assertEqual(unit_bytes(unit), other)


class Fields1And2(Case):
    def changed(self, row, at, *new, many=1):
        return row[:at] + new + row[at + many:]

    def test_names(self):
        # In edition 1 the part's name is at 2, the first stretch's at 5, a label's at 32, a told one at 62.
        self.assertEqual(SMALL_ONE[61:], (1, 1, 120))
        for at in (2, 5, 32, 62):
            self.refused(at, self.changed(SMALL_ONE, at, 0))
            for byte in (96, 123, 65, 0, 255):
                self.refused(at, self.changed(SMALL_ONE, at + 1, byte))
        # Five letters, of which none is other.
        self.refused(2, (85, 1, 5, 97, 97, 97, 97, 97, 0, 0))
        self.assertEqual(read_unit((85, 1, 4, 97, 97, 97, 97, 0, 0)), Unit([Part("aaaa")]))
        eight = (85, 2, 8) + (97,) * 8 + (0,) * 8
        self.assertEqual(read_unit(eight), Unit([Part("aaaaaaaa")]))
        self.refused(2, (85, 2, 9) + (97,) * 9 + (0,) * 8)
        nine = (85, 2, 1, 97, 0, 1, 9) + (97,) * 9 + (2, 1, 0, 5) + (0,) * 4 + (0, 1, 0, 0, 0, 0) + (0,) * 6
        self.refused(6, nine)
        self.assertEqual(read_unit(nine[:6] + (8,) + nine[8:]).parts[0].stretches[0].name, "a" * 8)

    def test_the_end_goes_ahead_of_the_field(self):
        self.refused(5, (85, 1, 9, 97, 97))
        self.refused(5, (85, 1, 200, 0, 0))
        self.refused(2, (85, 1, 0))
        self.refused(3, (85, 1, 1))
        self.refused(len(SMALL_ONE), self.changed(SMALL_ONE, 2, 255))
        # A number of edition 2 of one byte.
        self.refused(5, (85, 2, 1, 97, 0))

    def test_kinds_steps_forms(self):
        for byte in (3, 4, 97, 255):
            self.refused(10, self.changed(SMALL_ONE, 10, byte))
            self.refused(11, self.changed(SMALL_TWO, 11, byte))
        for byte in (0, 3, 5, 6, 7, 9, 15, 17, 32, 255):
            self.refused(12, self.changed(SMALL_TWO, 12, byte))
        self.assertEqual(SMALL_ONE[19:24], (1, 0, 1, 121, 0))
        for byte in (2, 3, 255):
            self.refused(20, self.changed(SMALL_ONE, 20, byte))
            self.refused(25, self.changed(SMALL_ONE, 25, byte))
        self.assertEqual(SMALL_TWO[23:29], (0, 1, 0, 1, 121, 0))
        for byte in (2, 255):
            self.refused(25, self.changed(SMALL_TWO, 25, byte))

    def test_sizes(self):
        self.refused(11, self.changed(SMALL_ONE, 11, 0))
        for size in ((0, 0), (15, 161), (255, 255)):
            self.refused(13, self.changed(SMALL_TWO, 13, *size, many=2))
        # A room of 4000.
        room = (85, 2, 1, 97, 0, 1, 1, 109, 2, 1, 15, 160) + (0,) * 4 + (0, 1, 0, 0, 0, 0) + (0,) * 6
        self.assertEqual(read_unit(room), lone(Stretch("m", kind="room", size=4000)))
        self.refused(10, self.changed(room, 11, 161))

    def test_parts_that_are_none(self):
        # The sum of what follows is right field by field.
        self.refused(2, self.changed(SMALL_ONE, 11 + 1, 0x02))
        self.refused(2, self.changed(SMALL_ONE, 11 + 2, 1))
        self.refused(2, self.changed(SMALL_ONE, 19, 2))
        self.refused(2, self.changed(SMALL_ONE, 20, 1))
        self.refused(2, self.changed(SMALL_ONE, 37, 4))
        self.refused(2, self.changed(SMALL_ONE, 33, 121))
        self.refused(2, self.changed(SMALL_ONE, 63, 113))
        self.refused(2, self.changed(SMALL_TWO, 11 + 4, 0x02))
        # Told twice, and not rising.
        self.refused(2, SMALL_ONE[:61] + (2, 1, 120, 1, 120))
        self.refused(2, SMALL_ONE[:61] + (2, 1, 121, 1, 120))
        self.assertEqual(read_unit(SMALL_ONE[:61] + (2, 1, 120, 1, 121)).parts[0].told, ("x", "y"))

    def test_two_wrong_at_once(self):
        self.refused(5, self.changed(self.changed(SMALL_ONE, 5, 0), 10, 3))
        # A part that is none, and a byte behind all; a kind that is none behind.
        self.refused(len(SMALL_ONE), self.changed(SMALL_ONE, 12, 0x02) + (0,))
        self.refused(40, self.changed(self.changed(SMALL_ONE, 12, 0x02), 40, 3))
        self.assertEqual(SMALL_ONE[38:42], (1, 100, 1, 3))


class Fields3(Case):
    def changed(self, at, *new, many=1, row=SMALL_THREE):
        return summed(row[:at] + new + row[at + many:-2])

    def test_the_sum(self):
        end = len(SMALL_THREE)
        self.assertEqual(sum_of(SMALL_THREE[:-2]), SMALL_THREE[-2] * 256 + SMALL_THREE[-1])
        for high, low in ((0, 1), (1, 0), (255, 255)):
            other = SMALL_THREE[:-2] + ((SMALL_THREE[-2] + high) % 256, (SMALL_THREE[-1] + low) % 256)
            self.refused(end - 2, other)
            self.refused(end - 2, other + (0,))
        self.refused(end - 2, (SMALL_THREE[:15] + (113,) + SMALL_THREE[16:]))

    def test_the_table(self):
        # d at 3, far at 5, main at 9, p at 14, r at 16, x at 18, y at 20, z at 22.
        self.assertEqual(SMALL_THREE[22:24], (1, 122))
        self.refused(5, self.changed(5, 1, 99, many=4))
        self.refused(5, self.changed(5, 1, 100, many=4))
        self.refused(9, self.changed(9, 3, 102, 97, 114, many=5))
        self.refused(16, self.changed(16, 1, 112, many=2))
        self.refused(16, self.changed(16, 1, 97, many=2))
        for at in (3, 5, 9, 14, 22):
            self.refused(at, self.changed(at, 0))
            self.refused(at, self.changed(at + 1, 96))
            self.refused(at, self.changed(at + 1, 123))
        self.refused(3, self.changed(3, 9, *(97,) * 9, many=2))
        self.assertEqual(read_unit(self.changed(3, 8, *(97,) * 8, many=2)).parts[0].stretches[1].name, "a" * 8)

    def test_a_name_beyond_the_table(self):
        self.assertEqual(SMALL_THREE[24:28], (1, 3, 3, 2))
        for at in (25, 27):
            for number in (8, 9, 127):
                self.refused(at, self.changed(at, number))
            self.refused(at, self.changed(at, 129, 0))
        # No names at all.
        self.refused(4, summed((85, 3, 0, 1, 0, 0, 0, 0, 0)))

    def test_no_parts(self):
        self.refused(24, self.changed(24, 0))
        self.refused(3, summed((85, 3, 0, 0)))

    def test_numbers_that_begin_with_128(self):
        for at in (2, 24, 25, 26, 27, 30, 37, 38):
            self.refused(at, self.changed(at, 128))
            self.refused(at, self.changed(at, 128, 3))
            self.refused(at, SMALL_THREE[:at] + (128,))
        self.refused(2, (85, 3, 128))
        # One that has no last byte.
        self.refused(3, (85, 3, 129))
        self.refused(6, (85, 3, 255, 255, 255, 255))
        self.refused(26, SMALL_THREE[:24] + (129, 128))

    def test_kinds_steps_sizes_forms(self):
        self.assertEqual(SMALL_THREE[28:31], (0, 1, 6))
        for byte in (3, 255):
            self.refused(28, self.changed(28, byte))
        for byte in (0, 3, 5, 32, 128):
            self.refused(29, self.changed(29, byte))
        for size in ((0,), (159, 33), (255, 127), (129, 128, 128, 128, 0)):
            self.refused(30, self.changed(30, *size))
        self.assertEqual(SMALL_THREE[37:41], (2, 1, 0, 6))
        for byte in (2, 128, 255):
            self.refused(39, self.changed(39, byte))

    def test_counts_beyond_all_bytes(self):
        for count in ((129, 0), (255, 255, 255, 127), (129,) + (128,) * 12 + (0,)):
            row = (85, 3, *count)
            self.refused(len(row), row)
            # Of the table's names the first one that isn't right goes ahead.
            self.refused(2 + len(count) + 21, (85, 3, *count) + SMALL_THREE[3:])
        size = SMALL_THREE[:30] + (129, 0)
        self.refused(len(size) + 5, size + (0,) * 5)

    def test_a_byte_behind_ahead_of_an_unused_name(self):
        unused = summed((85, 3, 2, 1, 97, 1, 98, 1, 0, 0, 0, 0, 0))
        self.refused(5, unused)
        self.refused(len(unused), unused + (0,))
        self.refused(3, summed((85, 3, 2, 1, 97, 1, 98, 1, 1, 0, 0, 0, 0)))
        self.assertEqual(read_unit(summed((85, 3, 1, 1, 97, 1, 0, 0, 0, 0, 0))), Unit([Part("a")]))

    def test_an_unused_name_ahead_of_a_part_that_is_none(self):
        # The part tells a name that it has not.
        none = summed((85, 3, 2, 1, 97, 1, 98, 1, 0, 0, 1, 1, 0, 0))
        self.refused(8, none)
        self.refused(7, summed((85, 3, 3, 1, 97, 1, 98, 1, 99, 1, 0, 0, 1, 1, 0, 0)))

    def test_the_first_part_that_is_none(self):
        # Three parts, of which the second and the third tell what they have not.
        head = (85, 3, 2, 1, 97, 1, 98, 3)
        good, bad = (0, 0, 0, 0, 0), (0, 0, 1, 1, 0, 0)
        self.refused(len(head) + len(good), summed(head + good + bad + bad))
        self.refused(len(head), summed(head + bad + good + bad))
        self.refused(len(head) + 2 * len(good), summed(head + good + good + bad))

    def test_what_only_the_part_refuses(self):
        # A plus of 65536, a row of 60001, an offset beyond.
        unit = lone(Stretch("m", kind="data", data=(0, 0), holds=((0, "full", "x", 1),), lines=((0, 1),)))
        row = unit_bytes(unit, edition=3)
        self.assertEqual(row, summed((
            85, 3, 3, 1, 97, 1, 109, 1, 120, 1, 0, 1, 1, 1, 1, 2, 0, 0, 1, 0, 1, 2, 1, 0, 1, 0, 1, 0, 0, 0)))
        for at, plus, good in ((22, (131, 255, 127), True), (22, (132, 128, 0), False), (26, (131, 212, 96), True),
                               (26, (131, 212, 97), False), (19, (1,), False), (25, (1,), False), (19, (129, 0), False),
                               (22, (255,) * 40 + (0,), False)):
            other = self.changed(at, *plus, row=row)
            if good:
                self.assertEqual(unit_bytes(read_unit(other), edition=3), other)
            else:
                self.refused(10, other)


class Moved(Case):
    def test_up_and_back(self):
        for unit in [SMALL, GREAT, *chance_units(3, 60)]:
            rows = {edition: unit_bytes(unit, edition=edition) for edition in range(least_edition(unit), 4)}
            for one in rows.values():
                for edition, other in rows.items():
                    self.assertEqual(moved(one, edition), other)
                for edition in range(1, least_edition(unit)):
                    with self.assertRaises(NoEdition) as caught:
                        moved(one, edition)
                    self.assertEqual(caught.exception.edition, edition)

    def test_no_bytes_ahead_of_no_edition(self):
        row = unit_bytes(GREAT)
        for edition in (1, 2, 3):
            with self.assertRaises(NoBytes) as caught:
                moved(row + (0,), edition)
            self.assertEqual(caught.exception.at, len(row))
        with self.assertRaises(NoEdition) as caught:
            moved(thing=row, edition=1)
        self.assertEqual(caught.exception, NoEdition(1, "parts"))


class Lowered(Case):
    def unit(self, **more):
        told = {"kind": "data", "data": (0,) * 9, "labels": (("x", 0),), "holds": ((2, "full", "z", 0),)}
        return Stretch("m", **{**told, **more})

    def test_what_is_lost(self):
        bare = lone(self.unit())
        step, line = {"step": 4}, {"lines": ((0, 0), (4, 5))}
        for more, lost in (({}, ()), (step, ("step",)), (line, ("line",)), ({**step, **line}, ("step", "line"))):
            unit = lone(self.unit(**more))
            self.assertEqual(lowered(unit, 1), (bare, lost))
            for edition in (2, 3):
                self.assertEqual(lowered(unit, edition), (unit, ()))
            self.assertEqual(unit, lone(self.unit(**more)))
        two = lone(self.unit(**line), Stretch("n", kind="room", size=3, step=2))
        self.assertEqual(lowered(two, 1), (lone(self.unit(), Stretch("n", kind="room", size=3)), ("step", "line")))

    def test_all_else_is_kept(self):
        unit = lone(Stretch("m", kind="code", step=16, data=(0x60, 0, 0), labels=(("x", 2),), holds=((1, "near", "x", 0),),
                            lines=((0, 4), (2, 9))), Stretch("n", kind="room", size=9, step=8),
                    told=("x",))
        low = lone(Stretch("m", kind="code", data=(0x60, 0, 0), labels=(("x", 2),), holds=((1, "near", "x", 0),)),
                   Stretch("n", kind="room", size=9), told=("x",))
        self.assertEqual(lowered(unit, 1), (low, ("step", "line")))

    def test_refused_for_all_else(self):
        step = {"step": 2, "lines": ((0, 9),)}
        for what, unit in (
                ("parts", Unit([Part("abcde"), Part("b")])), ("name", lone(self.unit(**step), name="abcde")),
                ("weak", lone(self.unit(**step), weak=("x",), soft=("z",))), ("soft", lone(self.unit(**step), soft=("z",))),
                ("number", lone(self.unit(**step, data=(0,) * 256)))):
            with self.assertRaises(NoEdition) as caught:
                lowered(unit, 1)
            self.assertEqual(caught.exception, NoEdition(1, what))
        with self.assertRaises(NoEdition) as caught:
            lowered(Unit([Part("a"), Part("b")]), 2)
        self.assertEqual(caught.exception, NoEdition(2, "parts"))
        self.assertEqual(lowered(GREAT, 3), (GREAT, ()))

    def test_whatever_unit(self):
        for unit in chance_units(4, 60):
            try:
                low, lost = lowered(unit, 1)
            except NoEdition as refusal:
                self.assertNotIn(refusal.what, ("step", "line"))
                continue
            self.assertEqual(least_edition(low), 1)
            self.assertEqual(lost == (), low == unit)


if __name__ == "__main__":
    unittest.main()
