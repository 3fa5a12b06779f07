"""[50]: whether two images are one program."""

import unittest

from byteround.apart import taken_apart
from byteround.assembling import assemble
from byteround.images import Image
from byteround.linking import link
from byteround.machine import run
from byteround.matching import same_program
from tests.anything import is_exact
from tests.samples import code_image, image_of


def unit_of(*rows):
    return assemble("\n".join(rows))


def linked(*rows):
    return link([unit_of("part a", "told x", *rows)], "x")


class Case(unittest.TestCase):
    def same(self, paper, one, other):
        told = same_program(one, other)
        self.assertTrue(is_exact(told))
        self.assertEqual((told[0], sorted(told[1]), len(told)), ("same", sorted(paper), 2))
        self.assertIs(type(told[1]), list)
        turned = same_program(other, one)
        self.assertEqual((turned[0], sorted(turned[1])), ("same", sorted((two, first) for first, two in paper)))

    def apart(self, way, word, at, one, other, *, turned=None):
        told = same_program(one, other)
        self.assertTrue(is_exact(told))
        self.assertEqual(told, ("apart", way, word, at))
        self.assertIs(type(told[1]), list)
        # The other way round only the spot may be another one, and what was matched ahead.
        self.assertEqual(same_program(other, one), ("apart", way, word, at if turned is None else turned))


class Same(Case):
    def test_an_image_with_itself(self):
        one = code_image(0)
        self.same([(0, 0)], one, one)
        whole = linked("soft s", "code m 4", "x:", "point p d", "go s", "call x", "halt", "data n 8", "held d", "d:", "held r+2",
                       "held s", "room q 1", "r:", "leave 5")
        self.same([(0, 0), (1, 1), (2, 2)], whole, whole)

    def test_in_another_order(self):
        main = unit_of("part a", "told x", "code m 1", "x:", "point p d", "call f", "halt")
        more = unit_of("part b", "told d", "told f", "code m 2", "f:", "back", "data n 4", "d:", "held f", "bytes 7")
        one, other = link([main, more], "x"), link([more, main], "x")
        self.same([(0, 2), (1, 0), (2, 1)], one, other)

    def test_stretches_that_are_not_come_to(self):
        one = code_image(0)
        many = link([unit_of("part a", "told x", "told d", "told e", "data n 1", "d:", "bytes 1", "code m 1", "x:", "halt",
                             "room o 1", "e:", "leave 1")], "x", keep=("d", "e"))
        self.same([(0, 1)], one, many)
        other = link([unit_of("part a", "told x", "told d", "code m 1", "x:", "halt", "data n 1", "d:", "held x")], "x",
                     keep=("d",))
        self.same([(1, 0)], many, other)

    def test_notes_and_names_are_no_matter(self):
        one = linked("code m 1", "x:", "go.long y", "row 7", "y:", "halt")
        other = linked("code n 1", "x:", "z:", "go.long w", "w:", "halt")
        self.same([(0, 0)], one, other)
        self.same([(0, 0)], one, Image(one.data, one.stretches, one.holds, one.entry))

    def test_bytes_of_full_fields_are_no_matter(self):
        # The same program put behind other data: each target is another one.
        rows = ("code m 1", "x:", "point p d+1", "go.long x", "data n 1", "d:", "bytes 1 2", "held x")
        one = linked(*rows)
        other = link([unit_of("part b", "told k", "data z 16", "k:", "zeros 100"), unit_of("part a", "told x", *rows)], "x",
                     keep=("k",))
        self.assertNotEqual(one.data, other.data[100:])
        self.same([(0, 1), (1, 2)], one, other)

    def test_rooms(self):
        one = linked("code m 1", "x:", "point p r+4", "halt", "room n 2", "r:", "leave 5")
        self.same([(0, 0), (1, 1)], one, one)

    def test_rings(self):
        one = linked("code m 1", "x:", "point p d", "halt", "data n 1", "d:", "held e", "held d", "data o 1", "e:", "held d+1",
                     "held x")
        other = linked("data o 1", "e:", "held d+1", "held x", "data n 1", "d:", "held e", "held d", "code m 1", "x:", "point p d",
                       "halt")
        self.same([(0, 2), (1, 1), (2, 0)], one, other)

    def test_what_is_told_may_be_changed(self):
        one = code_image(0)
        same_program(one, one)[1].clear()
        self.assertEqual(same_program(one, one), ("same", [(0, 0)]))
        two = code_image(1)
        same_program(one, two)[1].append(5)
        self.assertEqual(same_program(one, two), ("apart", [], "bytes", 0))


class Apart(Case):
    def test_twice(self):
        # One leads to one stretch by both holds, the other to two alike.
        one = linked("code m 1", "x:", "point p d", "point q d", "halt", "data n 1", "d:", "bytes 5")
        other = linked("code m 1", "x:", "point p d", "point q e", "halt", "data n 1", "d:", "bytes 5", "data o 1", "e:", "bytes 5")
        self.apart([1], "twice", 0, one, other)
        # By the entry's own stretch.
        one = linked("code m 1", "x:", "go.long x")
        other = linked("code m 1", "x:", "go.long y", "code n 1", "y:", "go.long x")
        self.apart([0], "twice", 0, one, other)

    def test_twice_ahead_of_all_else(self):
        one = linked("code m 1", "x:", "point p d", "point q d", "halt", "data n 1", "d:", "bytes 5")
        for rows in (("room o 1", "e:", "leave 1"), ("data o 4", "e:", "bytes 5"), ("data o 1", "e:", "bytes 5 5"),
                     ("data o 1", "e:", "bytes 6"), ("data o 1", "bytes 5", "e:", "bytes 5")):
            other = linked("code m 1", "x:", "point p d", "point q e", "halt", "data n 1", "d:", "bytes 5", *rows)
            self.apart([1], "twice", 0, one, other)

    def test_each_word_of_the_stretch_led_to(self):
        def image(*rows):
            return linked("soft s", "code m 1", "x:", "point p x", "point q d", "go s", *rows)
        plain = image("data n 2", "bytes 1", "d:", "bytes 2", "held x", "bytes 3")
        cases = [
            ("kind", 0, ("room n 2", "leave 1", "d:", "leave 4")),
            ("kind", 0, ("code n 2", "halt", "d:", "go.long x", "out a")),
            ("step", 0, ("data n 4", "bytes 1", "d:", "bytes 2", "held x", "bytes 3")),
            ("size", 0, ("data n 2", "bytes 1", "d:", "bytes 2", "held x", "bytes 3 4")),
            ("bytes", 0, ("data n 2", "bytes 9", "d:", "bytes 2", "held x", "bytes 3")),
            ("bytes", 1, ("data n 2", "bytes 1", "d:", "bytes 9", "held x", "bytes 8")),
            ("bytes", 4, ("data n 2", "bytes 1", "d:", "bytes 2", "held x", "bytes 9")),
            ("bytes", 4, ("data n 2", "bytes 1", "d:", "bytes 2", "two 0", "bytes 9")),
            ("holds", 2, ("data n 2", "bytes 1", "d:", "bytes 2", "two 0", "bytes 3")),
            ("holds", 2, ("data n 2", "bytes 1", "d:", "bytes 2", "two 77", "bytes 3")),
            ("nowhere", 2, ("data n 2", "bytes 1", "d:", "bytes 2", "held s", "bytes 3"))]
        for word, at, rows in cases:
            self.apart([1], word, at, plain, image(*rows))
        other = image("data n 2", "d:", "bytes 1", "bytes 2", "held x", "bytes 3")
        self.apart([1], "spot", 1, plain, other, turned=0)

    def test_two_at_once(self):
        order = ("kind", "step", "size", "spot", "bytes", "holds", "nowhere")

        def image(*unlike):
            """Data, but of the words that are unlike."""
            if "kind" in unlike:
                step = 4 if "step" in unlike else 2
                size = 9 if "size" in unlike else 8
                return linked("soft s", "code m 1", "x:", "point q d", "go s", f"room n {step}",
                              *(("leave 1", "d:", f"leave {size - 1}") if "spot" in unlike else ("d:", f"leave {size}")))
            first = "bytes 9" if "bytes" in unlike else "bytes 1"
            rows = ["d:", first, "bytes 3"] if "spot" not in unlike else [first, "d:", "bytes 3"]
            rows.append("held s" if "nowhere" in unlike else "held x")
            rows.append("held x" if "holds" in unlike else "two 0")
            rows += ["bytes 1 1"] + ["bytes 1"] * ("size" in unlike)
            return linked("soft s", "code m 1", "x:", "point q d", "go s", f"data n {4 if 'step' in unlike else 2}", *rows)
        plain = image()
        for one in order:
            for other in order:
                told = same_program(plain, image(one, other))
                self.assertEqual(told[:3], ("apart", [0], min(one, other, key=order.index)), (one, other))

    def test_of_the_entries(self):
        self.apart([], "bytes", 0, code_image(0), code_image(1))
        self.apart([], "size", 0, code_image(0), code_image(0, 0))
        self.apart([], "spot", 0, code_image(0, 0), code_image(0, 0, entry=1), turned=1)
        self.apart([], "step", 0, code_image(0), image_of(("code", 2, (0,))))
        self.apart([], "bytes", 1, code_image(0x60, 0, 0, 0), code_image(0x60, 1, 0, 0))
        self.apart([], "nowhere", 1, code_image(0x61, 0, 0, holds=((1, None),)), code_image(0x61, 0, 0, holds=((1, 0),)))

    def test_the_first_byte_out_of_all_fields(self):
        # Fields that overlap: neither's bytes count.
        one = image_of(("code", 1, (0x70, 0, 0, 0)), ("data", 1, (1, 0, 0, 9, 5)), holds=((1, 4), (5, 4)))
        other = image_of(("code", 1, (0x70, 0, 0, 0)), ("data", 1, (1, 8, 0, 0, 5)), holds=((1, 4), (6, 4)))
        self.apart([0], "holds", 1, one, other)
        third = image_of(("code", 1, (0x70, 0, 0, 0)), ("data", 1, (1, 8, 0, 0, 6)), holds=((1, 4), (6, 4)))
        self.apart([0], "bytes", 4, one, third)

    def test_the_first_field_that_is_not_in_both(self):
        def image(*fields):
            return image_of(("code", 1, (0x70, 0, 0, 0)), ("data", 1, (0,) * 20),
                            holds=((1, 4), *[(4 + at, None) for at in fields]))
        self.apart([0], "holds", 8, image(0, 4, 8), image(0, 4))
        self.apart([0], "holds", 4, image(0, 4, 8), image(0, 8))
        self.apart([0], "holds", 4, image(0, 4, 8), image(0, 6, 8))
        self.apart([0], "holds", 0, image(0), image(4))

    def test_the_first_field_that_is_nowhere(self):
        def image(*targets):
            return image_of(("code", 1, (0x70, 0, 0, 0)), ("data", 1, (0,) * 8),
                            holds=((1, 4), *[(4 + 2 * k, target) for k, target in enumerate(targets)]))
        self.apart([0], "nowhere", 4, image(None, 4, 4, None), image(None, 4, None, 4))
        # Ahead of what lies behind other fields.
        self.apart([0], "nowhere", 6, image(4, 5, 6, 7), image(5, 4, 7, None))
        self.apart([0, 0], "spot", 0, image(4, 5, 6, 7), image(5, 4, 7, 6), turned=1)


class Ways(Case):
    def test_fewest_holds(self):
        # By 0, 0 or by 1: the second is shorter.
        def image(last):
            return linked("code m 1", "x:", "point p d", "point q e", "halt", "data n 1", "d:", "held e", "data o 1", "e:", last)
        self.apart([1], "bytes", 0, image("bytes 1"), image("bytes 2"))

    def test_the_first_of_these(self):
        def image(one, other):
            return linked("code m 1", "x:", "point p d", "point q e", "halt", "data n 1", "d:", "bytes 0 0", "held f",
                          "data o 1", "e:", "held g", "data p 1", "f:", one, "data q 1", "g:", other)
        self.apart([0, 0], "bytes", 0, image("bytes 1", "bytes 1"), image("bytes 2", "bytes 2"))
        self.apart([1, 0], "bytes", 0, image("bytes 1", "bytes 1"), image("bytes 1", "bytes 2"))
        self.apart([0, 0], "bytes", 0, image("bytes 1", "bytes 1"), image("bytes 2", "bytes 1"))

    def test_numbers_as_numbers(self):
        def image(last):
            rows = [f"held {letter}" for letter in "bcdefghijklm"]
            boxes = [row for letter in "bcdefghijkl" for row in (f"data {letter} 1", f"{letter}:", "bytes 1")]
            return linked("code y 1", "x:", "point p a", "halt", "data a 1", "a:", *rows, *boxes[:-1], last[0], "data m 1", "m:",
                          last[1])
        self.apart([0, 10], "bytes", 0, image(("bytes 1", "bytes 1")), image(("bytes 2", "bytes 2")))
        self.apart([0, 11], "bytes", 0, image(("bytes 1", "bytes 1")), image(("bytes 1", "bytes 2")))

    def test_numbers_are_of_all_full_fields(self):
        def image(last):
            return linked("soft s", "code m 1", "x:", "y:", "go.short y", "go s", "point p s", "point q d", "data n 1", "d:",
                          "bytes 7", "held s", "held e", "data o 1", "e:", last)
        self.apart([2, 1], "bytes", 0, image("bytes 1"), image("bytes 2"))

    def test_a_spot_of_a_pair_that_matched_ahead(self):
        def image(plus):
            return linked("code m 1", "x:", "point p d", "point q d" + plus, "halt", "data n 1", "d:", "bytes 1 1 1")
        self.apart([1], "spot", 0, image(""), image("+2"), turned=2)
        self.apart([1], "spot", 1, image("+1"), image("+2"), turned=2)

    def test_a_mismatch_within_goes_ahead_of_ways_on(self):
        # d is unlike itself, the way to it is ahead of that through it.
        one = linked("code m 1", "x:", "point p d", "halt", "data n 1", "d:", "held e", "bytes 1", "data o 1", "e:", "bytes 1")
        other = linked("code m 1", "x:", "point p d", "halt", "data n 1", "d:", "held e", "bytes 2", "data o 1", "e:", "bytes 2")
        self.apart([0], "bytes", 2, one, other)

    def test_deep_down(self):
        def image(last):
            letters = "bcdefghijklmnop"
            boxes = [row for one, other in zip(letters, letters[1:]) for row in (f"data {one} 1", f"{one}:", f"held {other}")]
            return linked("code y 1", "x:", "point p b", "halt", *boxes, "data p 1", "p:", last)
        self.apart([0] * 15, "bytes", 0, image("bytes 1"), image("bytes 2"))


class Alike(Case):
    def test_one_program_runs_alike(self):
        rows = ("code m 1", "x:", "in a", "point p d", "load b p", "store a p", "load c p", "out b", "out c", "call f", "halt",
                "data n 1", "bytes 9", "d:", "bytes 3", "held f", "code o 1", "f:", "out a", "back")
        one = linked(*rows)
        unit, entry, keep = taken_apart(one)
        other = link([unit_of("part z", "told k", "data k 16", "k:", "zeros 50"), unit], entry, keep=keep + ("k",))
        told = same_program(one, other)
        self.assertEqual(told[0], "same")
        paper = dict(told[1])
        for inputs in ((), (5,), (300, 4)):
            for most in range(14):
                mine, yours = run(one, inputs, most=most), run(other, inputs, most=most)
                where = None if mine[2] is None else (paper[mine[2][0]], mine[2][1])
                self.assertEqual(yours, mine[:2] + (where, mine[3]))


if __name__ == "__main__":
    unittest.main()
