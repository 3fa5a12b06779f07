"""[46]: images taken apart into units of one part."""

import random
import unittest

from byteround.apart import taken_apart
from byteround.assembling import assemble
from byteround.images import Image
from byteround.linking import link, reached
from byteround.machine import run
from byteround.matching import same_program
from byteround.things import Unit
from tests.anything import is_exact
from tests.chance import chance_unit
from tests.samples import code_image, image_of


def unit_of(*rows):
    return assemble("\n".join(rows))


class Case(unittest.TestCase):
    def comes_back(self, image):
        unit, entry, keep = taken_apart(image)
        self.assertIsInstance(unit, Unit)
        self.assertEqual(len(unit.parts), 1)
        self.assertTrue(is_exact([entry, keep]))
        self.assertIs(type(taken_apart(image)), tuple)
        self.assertIs(type(keep), tuple)
        self.assertEqual(len(reached([unit], entry, keep=keep)), len(image.stretches))
        made = link([unit], entry, keep=keep)
        self.assertEqual((made.data, made.stretches, made.holds, made.entry),
                         (image.data, image.stretches, image.holds, image.entry))
        self.assertEqual(same_program(image, made)[0], "same")
        return unit


class Apart(Case):
    def test_one_byte(self):
        self.comes_back(code_image(0))

    def test_each_kind_and_step(self):
        for step in (1, 2, 4, 8, 16):
            for other in (1, 2, 4, 8, 16):
                self.comes_back(image_of(
                    ("data", step, (1, 2, 3)), ("code", other, (0x04, 0x00)), ("room", step, 5), ("room", other, 4000),
                    entry=-(-3 // other) * other + 1))

    def test_entries(self):
        for entry in (0, 2, 3):
            self.comes_back(code_image(0x14, 5, 4, 0, entry=entry))
            self.comes_back(image_of(("code", 1, (0,)), ("data", 1, (7,)), ("code", 2, (0x14, 5, 4, 0)), entry=2 + entry))

    def test_near_fields(self):
        self.comes_back(code_image(0x60, 0, 0x62, 0xfc, 0x64, 0xfe, 0x67, 1, 4, 0))
        self.comes_back(image_of(("code", 1, (4, 0)), ("code", 1, (4, 0x60, 0xfd))))

    def test_full_fields_of_code(self):
        for first in (0x61, 0x63, 0x68, 0x69, 0x6a, 0x6b, 0x70, 0x71):
            for target in (None, 0, 3, 5, 6):
                self.comes_back(image_of(
                    ("code", 1, (first, 0, 0, 0x14, 9, 0)), ("code", 1, (4, 0)), holds=((1, target),), entry=3))

    def test_points_into_data_and_rooms(self):
        # code 0 to 3, data 4 to 9 with a field at 5 and 6, a room 10 to 17.
        for target in [None, 0, 3, *range(4, 18)]:
            self.comes_back(image_of(
                ("code", 1, (0x70, 0, 0, 0)), ("data", 1, (1, 0, 0, 3, 4, 5)), ("room", 2, 8), holds=((1, target), (5, 9))))

    def test_targets_amid_a_held_field(self):
        self.comes_back(image_of(
            ("code", 1, (0x71, 0, 0, 0)), ("data", 1, (0,) * 6), holds=((1, 5), (4, 5), (6, 7), (8, 9))))

    def test_held_fields_at_a_stretchs_begin(self):
        self.comes_back(image_of(("data", 1, (0, 0)), ("code", 1, (0,)), holds=((0, 1),), entry=2))
        self.comes_back(image_of(("data", 1, (0, 0)), ("code", 1, (0,)), holds=((0, None),), entry=2))

    def test_data_that_lead_into_code(self):
        for target in (0, 1, 3, 5):
            self.comes_back(image_of(
                ("code", 1, (4, 0x14, 3, 0x60, 0xfe, 0)), ("data", 8, (0, 0, 7)), holds=((8, target),)))

    def test_many_stretches(self):
        specs = [("code", 1, (0x61, 0, 0)) for _ in range(300)] + [("room", 16, 3)] * 200
        holds = [(3 * k + 1, 3 * ((k * 7 + 1) % 300)) for k in range(300)]
        unit = self.comes_back(image_of(*specs, holds=holds, entry=3 * 17))
        self.assertEqual(len(unit.parts[0].stretches), 500)

    def test_stretches_that_nobody_reaches(self):
        self.comes_back(image_of(("data", 1, (1,)), ("code", 1, (0,)), ("code", 1, (0,)), ("room", 1, 1), entry=1))

    def test_notes_and_none(self):
        rows = ("part a", "told x", "soft s", "code m 2", "x:", "point p d+1", "go s", "halt", "data n 8", "d:", "bytes 1 2",
                "held x", "held d+3")
        image = link([unit_of(*rows)], "x")
        bare = Image(image.data, image.stretches, image.holds, image.entry)
        self.comes_back(image)
        self.comes_back(bare)
        unit, entry, keep = taken_apart(image)
        self.assertEqual(taken_apart(bare), (unit, entry, keep))

    def test_it_runs_alike(self):
        rows = ("part a", "told x", "code m 1", "x:", "in a", "point p d", "store a p", "load b p", "out b", "call f", "halt",
                "data n 1", "bytes 9", "d:", "bytes 3", "held f", "code o 1", "f:", "out a", "back")
        image = link([unit_of(*rows)], "x")
        unit, entry, keep = taken_apart(image)
        for inputs in ((), (5,), (300, 4)):
            self.assertEqual(run(link([unit], entry, keep=keep), inputs), run(image, inputs))

    def test_whatever_images(self):
        chance = random.Random(11)
        made = 0
        while made < 80:
            units = [chance_unit(chance, k, 2, told=0.8, soft=0.95) for k in range(2)]
            for name in units[0].parts[0].told:
                try:
                    image = link(units, name, keep=units[1].parts[0].told)
                except (KeyError, LookupError, TypeError):
                    continue
                made += 1
                self.comes_back(image)


if __name__ == "__main__":
    unittest.main()
