"""[74]: patches of images, done and carried over."""

import random
import unittest

from byteround.assembling import assemble
from byteround.carrying import carried, patched
from byteround.errors import Misfit, NoImage, OtherProgram, Uncarried
from byteround.images import Image
from byteround.linking import link
from byteround.machine import run
from byteround.matching import same_program
from byteround.patches import Patch, fitted, patch_between, turned_back
from tests.chance import chance_programs
from tests.samples import code_image, image_of
from tests.test_matching import linked, unit_of

# Code 0 to 6 (fields at 1 and 4), a fill 7, data 8 to 13 (a field at 10), data 14 to 15, data 16 to 17 that nothing leads
# to, a fill, a room 20 to 22.
ROWS = ("part a", "told x", "told k", "code m 1", "x:", "point p d", "point q e", "halt",
        "data n 8", "d:", "bytes 1 2", "held r", "bytes 3 4", "data o 1", "e:", "bytes 5 6", "data z 1", "k:", "bytes 7 8",
        "room s 4", "r:", "leave 3")
ONE = link([unit_of(*ROWS)], "x", keep=("k",))
# The same program, its stretches in another order: data 0 to 1, data 8 to 13 behind fills, code 14 to 20.
OTHER = link([unit_of("part b", "told e", "told d", "data o 1", "e:", "bytes 5 6", "data n 8", "d:", "bytes 1 2",
                      "held r", "bytes 3 4", "room s 4", "r:", "leave 3"),
              unit_of("part a", "told x", "code m 1", "x:", "point p d", "point q e", "halt")], "x")


class Case(unittest.TestCase):
    def carries(self, spots, due, one=ONE, other=OTHER):
        patch = Patch(len(one.data), spots)
        told = carried(patch, one, other)
        self.assertEqual((told.length, told.spots), (len(other.data), tuple(due)))
        self.assertEqual(carried(image=one, patch=patch, other=other), told)
        fitted(told, other.data)
        return told

    def uncarried(self, at, *spots, one=ONE, other=OTHER):
        with self.assertRaises(Uncarried, msg=spots) as caught:
            carried(Patch(len(one.data), spots), one, other)
        self.assertEqual(caught.exception, Uncarried(at))


class Patched(unittest.TestCase):
    def test_data_alone_is_another(self):
        patch = Patch(18, [(8, (1,), (9,)), (14, (5, 6), (0, 0))])
        told = patched(ONE, patch)
        self.assertEqual(told, Image(fitted(patch, ONE.data), ONE.stretches, ONE.holds, ONE.entry, notes=ONE.notes))
        self.assertEqual(told.notes, ONE.notes)
        self.assertEqual(patched(patch=turned_back(patch), image=told), ONE)
        self.assertEqual(patched(ONE, Patch(18)), ONE)
        bare = Image(ONE.data, ONE.stretches, ONE.holds, ONE.entry)
        self.assertIsNone(patched(bare, patch).notes)

    def test_misfit(self):
        # Ahead of bytes that make no image.
        for patch, at in ((Patch(18, [(9, (1,), ())]), 9), (Patch(19), 18), (Patch(0), 0), (Patch(17, [(0, (1,), ())]), 0)):
            with self.assertRaises(Misfit) as caught:
                patched(ONE, patch)
            self.assertEqual(caught.exception, Misfit(at))

    def test_no_image(self):
        for spot, part in (((7, (0,), (1,)), "stretches"), ((6, (0,), (2,)), "stretches"), ((0, (0x70,), (0,)), "holds"),
                           ((2, (8,), (9,)), "holds"), ((18, (), (1,)), "stretches"), ((17, (8,), ()), "stretches"),
                           ((6, (0,), ()), "stretches")):
            with self.assertRaises(NoImage, msg=spot) as caught:
                patched(ONE, Patch(18, [spot]))
            self.assertEqual(caught.exception, NoImage(part))
        noted = image_of(("code", 1, (0, 0)), notes=[(0, "a", "m", (("x", 1),), ((0, 1),))])
        with self.assertRaises(NoImage) as caught:
            patched(noted, Patch(2, [(0, (0, 0), (20, 0))]))
        self.assertEqual(caught.exception, NoImage("notes"))

    def test_it_does_what_the_patched_image_does(self):
        one = linked("code m 1", "x:", "set a 5", "out a", "halt")
        self.assertEqual(run(patched(one, Patch(4, [(1, (5,), (7,))])))[0], [7])


class Carried(Case):
    def test_the_sample(self):
        self.assertEqual(len(ONE.data), 18)
        self.assertEqual([begin for begin, _, _, _ in ONE.stretches], [0, 8, 14, 16, 20])
        self.assertEqual([begin for begin, _, _, _ in OTHER.stretches], [0, 8, 14, 24])
        self.assertEqual(same_program(ONE, OTHER), ("same", [(0, 2), (1, 1), (2, 0), (4, 3)]))

    def test_spots_in_each_stretch(self):
        self.carries([], [])
        self.carries([(0, (0x70,), (0x71,))], [(14, (0x70,), (0x71,))])
        self.carries([(6, (0,), (2,))], [(20, (0,), (2,))])
        self.carries([(8, (1, 2), (9, 9)), (12, (3,), (3,)), (15, (6,), (7,))], [(1, (6,), (7,)), (8, (1, 2), (9, 9)), (12, (3,), (3,))])
        self.carries([(8, (1, 2), (9, 9)), (1, (6,), (7,))][:1], [(8, (1, 2), (9, 9))], OTHER, OTHER)
        self.carries([(1, (6,), (7,)), (8, (1,), (9,))], [(8, (1,), (9,)), (15, (6,), (7,))], OTHER, ONE)

    def test_parted_over_two_stretches(self):
        self.carries([(13, (4, 5), (9, 8))], [(0, (5,), (8,)), (13, (4,), (9,))])
        self.carries([(12, (3, 4, 5, 6), (9, 9, 9, 9))], [(0, (5, 6), (9, 9)), (12, (3, 4), (9, 9))])

    def test_put_together_where_they_come_to_touch(self):
        # In one image a fill is between, in the other the stretches are behind one another.
        one = link([unit_of("part a", "told x", "code m 1", "x:", "point p d", "point q e", "halt", "data n 2", "d:", "bytes 3 4 5",
                            "data o 2", "e:", "bytes 6 7")], "x")
        other = link([unit_of("part a", "told x", "code m 1", "x:", "point p d", "point q e", "halt", "data o 2", "e:", "bytes 6 7",
                              "data n 2", "d:", "bytes 3 4 5")], "x")
        self.assertEqual([begin for begin, _, _, _ in one.stretches], [0, 8, 12])
        self.assertEqual([begin for begin, _, _, _ in other.stretches], [0, 8, 10])
        self.carries([(8, (3,), (9,)), (13, (7,), (8,))], [(9, (7, 3), (8, 9))], one, other)
        # Bytes between that are touched: even alike ones.
        self.uncarried(10, (10, (5, 0, 6), (9, 0, 9)), one=one, other=other)
        self.carries([(9, (7, 3), (8, 9))], [(8, (3,), (9,)), (13, (7,), (8,))], other, one)

    def test_uncarried(self):
        # A fill; next to one; full fields of code and data, a part of one; stretches that aren't matched.
        for at, old in ((7, (0,)), (6, (0, 0)), (7, (0, 1)), (1, (0,)), (2, (8,)), (0, (0x70, 0)), (5, (14, 0)), (10, (0,)), (11, (20,)),
                        (9, (2, 0)), (11, (20, 3)), (16, (7,)), (17, (8,)), (15, (6, 7))):
            self.uncarried(at, (at, old, old))
        for old, new in (((), (1,)), ((1,), ()), ((1,), (1, 1)), ((1, 2), (1,))):
            self.uncarried(8, (8, old, new))
        self.uncarried(18, (18, (), (1,)))
        self.uncarried(16, (16, (7,), (8,)), one=ONE, other=ONE)

    def test_the_first_of_several(self):
        self.uncarried(8, (6, (0,), (2,)), (8, (), (2,)), (16, (7,), (7,)))
        self.uncarried(1, (1, (0,), (2,)), (8, (), (2,)))
        self.uncarried(16, (6, (0,), (2,)), (8, (1,), (2,)), (16, (7,), (7,)))

    def test_rooms_have_no_bytes(self):
        one = linked("code m 1", "x:", "point p r", "halt", "room n 1", "r:", "leave 3")
        with self.assertRaises(Misfit) as caught:
            carried(Patch(7, [(4, (0,), (1,))]), one, one)
        self.assertEqual(caught.exception, Misfit(4))

    def test_misfit_then_other_program_then_uncarried(self):
        unlike = link([unit_of(*[row.replace("bytes 5 6", "bytes 5 7") for row in ROWS])], "x", keep=("k",))
        self.assertEqual(same_program(ONE, unlike)[:2], ("apart", [1]))
        with self.assertRaises(Misfit) as caught:
            carried(Patch(18, [(7, (9,), (1,))]), ONE, unlike)
        self.assertEqual(caught.exception, Misfit(7))
        for other, way in ((unlike, [1]), (code_image(0), [])):
            for spots in ([], [(7, (0,), (1,))], [(8, (1,), (2,))]):
                with self.assertRaises(OtherProgram) as caught:
                    carried(Patch(18, spots), ONE, other)
                self.assertEqual(caught.exception, OtherProgram(way))
        # Another program is refused, though the patch fits its data.
        with self.assertRaises(Misfit):
            carried(Patch(5), ONE, ONE)

    def test_by_chance(self):
        chance = random.Random(8)
        some = 0
        for texts, entry in chance_programs(81, 60, parts=3):
            units = [assemble(text) for text in texts]
            image, other = link(units, entry), link(units[::-1], entry)
            paper = dict(same_program(image, other)[1])
            row = list(image.data)
            for begin, size, kind, _ in image.stretches:
                for at in range(begin, begin + size):
                    if kind == "data" and not any(spot <= at < spot + 2 for spot, _ in image.holds) and chance.random() < 0.5:
                        row[at] = chance.randrange(256)
            patch = patch_between(image.data, tuple(row))
            told = carried(patch, image, other)
            mine, yours = patched(image, patch), patched(other, told)
            self.assertEqual(same_program(mine, yours), ("same", sorted(paper.items())))
            self.assertEqual(carried(told, other, image), patch)
            for inputs in ((), (3, 4, 5)):
                self.assertEqual(run(mine, inputs)[:2], run(yours, inputs, base=40000)[:2])
            some += len(patch)
        self.assertGreater(some, 100)


if __name__ == "__main__":
    unittest.main()
