"""[43], [45]: looks at lists of kept stretches and at linked images."""

import random
import unittest

from byteround.assembling import assemble
from byteround.images import Image
from byteround.linking import link, reached
from byteround.linklooks import is_linked, shows_reached
from byteround.things import Unit
from tests.anything import Number, Row, Rows, anything
from tests.chance import chance_unit, chance_units


def unit_of(*rows):
    return assemble("\n".join(rows))


# The entry's stretch 0 leads by hold 0 to itself, by 1 to stretch 1, by 2 to 3; 1 by 0 to 2, by 1 to 3, by 2 nowhere;
# 2 leads to 3, 3 to 2; 4 leads to 1 and is not kept; 5 is one of keep and leads to 0.
UNIT = unit_of(
    "part a", "told x", "told k", "soft s", "code m 1", "x:", "go.short x", "point p b", "point q d", "halt",
    "data n 1", "b:", "held c", "held d", "held s", "data o 1", "c:", "held d", "data p 1", "d:", "held c",
    "data q 1", "held b", "data r 1", "k:", "held x")
NONE_KEPT = [(0, 0, None), (0, 1, (0, 0, 1)), (0, 2, (0, 1, 0)), (0, 3, (0, 0, 2))]


class Reached(unittest.TestCase):
    def looks(self, expected, thing, units=(UNIT,), entry="x", **more):
        told = shows_reached(units, entry, thing, **more)
        self.assertIs(told, expected, thing)

    def shown(self, *bys):
        """The list of stretches 0 to 3 with such holds for 1 to 3."""
        return [(0, 0, None)] + [(0, k + 1, by) for k, by in enumerate(bys)]

    def test_what_is_told(self):
        self.assertEqual(reached([UNIT], "x"), NONE_KEPT)
        self.looks(True, NONE_KEPT)
        self.looks(True, Rows(Row(row) for row in NONE_KEPT))
        self.looks(True, NONE_KEPT[:1] + NONE_KEPT[1:2] + [Row((Number(0), 2, Row((0, 1, 0))))] + NONE_KEPT[3:])

    def test_any_hold_of_a_kept_one(self):
        self.looks(True, self.shown((0, 0, 1), (0, 1, 0), (0, 1, 1)))
        self.looks(True, self.shown((0, 0, 1), (0, 1, 0), (0, 2, 0)))
        self.looks(True, self.shown((0, 0, 1), (0, 3, 0), (0, 1, 1)))
        self.looks(True, self.shown((0, 0, 1), (0, 3, 0), (0, 0, 2)))

    def test_holds_that_lead_elsewhere(self):
        for by in ((0, 0, 0), (0, 0, 2), (0, 1, 0), (0, 1, 2), (0, 0, 3), (0, 0, -1), (0, 9, 0), (1, 0, 1), (-1, 0, 1)):
            self.looks(False, self.shown(by, (0, 1, 0), (0, 0, 2)))
        self.looks(False, self.shown((0, 0, 1), (0, 1, 2), (0, 0, 2)))

    def test_none_just_of_entry_and_keep(self):
        self.looks(False, [(0, 0, (0, 0, 0))] + NONE_KEPT[1:])
        for k in (1, 2, 3):
            self.looks(False, NONE_KEPT[:k] + [(0, k, None)] + NONE_KEPT[k + 1:])

    def test_rings(self):
        self.looks(False, self.shown((0, 0, 1), (0, 3, 0), (0, 2, 0)))

    def test_a_hold_of_a_stretch_that_is_not_kept(self):
        self.looks(False, self.shown((0, 4, 0), (0, 1, 0), (0, 0, 2)))

    def test_keep(self):
        kept = NONE_KEPT + [(0, 5, None)]
        self.looks(True, kept, keep=("k",))
        self.looks(False, NONE_KEPT, keep=("k",))
        self.looks(False, kept)
        self.looks(False, [(0, 0, (0, 5, 0))] + kept[1:], keep=("k",))
        self.looks(False, NONE_KEPT + [(0, 5, (0, 0, 0))], keep=["k"])

    def test_one_out_twice_in_another_order(self):
        for k in range(4):
            self.looks(False, NONE_KEPT[:k] + NONE_KEPT[k + 1:])
            self.looks(False, NONE_KEPT[:k] + [NONE_KEPT[k]] + NONE_KEPT[k:])
            self.looks(False, NONE_KEPT[k:] + NONE_KEPT[:k] if k else NONE_KEPT[::-1])
        self.looks(False, NONE_KEPT + [(0, 4, None)])
        self.looks(False, [])

    def test_truths_and_other_kinds(self):
        for one, other in ((0, False), (0, "0"), (0, None), (0, 0.0)):
            self.looks(False, [(other, 0, None)] + NONE_KEPT[1:])
            self.looks(False, [(one, other, None)] + NONE_KEPT[1:])
            self.looks(False, self.shown((other, 0, 1), (0, 1, 0), (0, 0, 2)))
        self.looks(False, [(0, 0, None), (0, True, (0, 0, 1))] + NONE_KEPT[2:])
        self.looks(False, self.shown((0, 0, True), (0, 1, 0), (0, 0, 2)))
        self.looks(False, self.shown([0, 0, 1], (0, 1, 0), (0, 0, 2)))
        self.looks(False, [list(row) for row in NONE_KEPT])
        self.looks(False, tuple(NONE_KEPT))
        self.looks(False, [(0, 0, False)] + NONE_KEPT[1:])

    def test_of_anything(self):
        for thing in anything():
            self.looks(False, thing)
            self.looks(False, [thing])
            for k in range(4):
                self.looks(False, NONE_KEPT[:k] + [thing] + NONE_KEPT[k + 1:])
                for n in range(3):
                    row = NONE_KEPT[k][:n] + (thing,) + NONE_KEPT[k][n + 1:]
                    if row != NONE_KEPT[k] or type(thing) is bool:
                        self.looks(False, NONE_KEPT[:k] + [row] + NONE_KEPT[k + 1:])
                    if k:
                        by = NONE_KEPT[k][2][:n] + (thing,) + NONE_KEPT[k][2][n + 1:]
                        if by != NONE_KEPT[k][2] or type(thing) is bool:
                            self.looks(False, NONE_KEPT[:k] + [(0, k, by)] + NONE_KEPT[k + 1:])

    def test_refused_units(self):
        good = unit_of("part a", "told x", "code m 1", "x:", "halt")
        self.looks(True, [(0, 0, None)], [good])
        for rows, more in (
                (["part b", "told x", "code m 1", "x:", "halt"], {}),
                (["part b", "data m 1", "held gone"], {}),
                (["part b", "code m 1", "go d", "halt", "part c", "told d", "data m 1", "d:", "bytes 1"], {}),
                (["part b", "data m 1", "d:", "held d+2"], {}), (["part b"], {"keep": ("gone",)}), (["part b"], {"entry": "y"})):
            units = [good, unit_of(*rows)]
            self.looks(False, [(0, 0, None)], units, **more)
            self.looks(False, [], units, **more)
        # Too great isn't refused.
        rooms = [row for letter in "bcdefghijkl" for row in (f"room {letter} 1", f"{letter}:", "leave 4000")]
        points = [f"point p {letter}" for letter in "bcdefghijkl"]
        great = unit_of("part a", "told x", "code m 1", "x:", *points, "halt", *rooms)
        self.looks(True, [(0, 0, None)] + [(0, k, (0, 0, k - 1)) for k in range(1, 12)], [great])

    def test_shelves(self):
        one = unit_of("part a", "told x", "code m 1", "x:", "call y", "halt")
        two = unit_of("part b", "told y", "code m 1", "y:", "back")
        self.looks(True, [(0, 0, None), (1, 0, (0, 0, 0))], [one], shelves=[[two]])
        self.looks(False, [(0, 0, None), (1, 0, (0, 0, 0))], [one])

    def test_whatever_units(self):
        for unit in chance_units(13, 150):
            for part in unit.parts:
                for name in part.told:
                    try:
                        told = reached([unit], name)
                    except (KeyError, LookupError, TypeError, RuntimeError):
                        self.looks(False, [], [unit], name)
                        continue
                    self.looks(True, told, [unit], name)


class Linked(unittest.TestCase):
    unit = unit_of(
        "part a", "told x", "told k", "soft s", "code m 2", "x:", "point p d+1", "go s", "halt", "data n 8", "d:", "bytes 1 2",
        "held x", "room r 4", "k:", "leave 9")

    def test_what_link_tells(self):
        made = link([self.unit], "x")
        self.assertIs(is_linked(self.unit, "x", made), True)
        self.assertIs(is_linked(unit=self.unit, entry="x", thing=made, keep=()), True)
        kept = link([self.unit], "x", keep=("k",))
        self.assertIs(is_linked(self.unit, "x", kept, keep=("k",)), True)
        self.assertIs(is_linked(self.unit, "x", kept, keep=["k", "x", "k"]), True)
        self.assertIs(is_linked(self.unit, "x", kept), False)
        self.assertIs(is_linked(self.unit, "x", made, keep=("k",)), False)

    def test_otherwise_in_each_field(self):
        made = link([self.unit], "x", keep=("k",))
        fields = {"data": made.data, "stretches": made.stretches, "holds": made.holds, "entry": made.entry, "notes": made.notes}
        self.assertTrue(is_linked(self.unit, "x", Image(**fields), keep=("k",)))
        others = [
            {"data": made.data[:8] + (9,) + made.data[9:]}, {"entry": 6}, {"notes": None},
            {"stretches": made.stretches[:2] + ((12, 10, "room", 4),)},
            {"stretches": made.stretches[:2] + ((12, 9, "room", 2),)},
            {"data": (0x70, 0, 8) + made.data[3:], "holds": ((1, 8),) + made.holds[1:]},
            {"data": made.data[:10] + (0, 8), "holds": made.holds[:-1] + ((10, 8),)},
            {"holds": made.holds[:-1] + ((10, None),)}]
        for number in range(3):
            for k, worth in enumerate((1, "b", "b", (), ((0, 9),))):
                note = made.notes[number][:k] + (worth,) + made.notes[number][k + 1:]
                others.append({"notes": made.notes[:number] + (note,) + made.notes[number + 1:]})
        for other in others:
            strange = Image(**{**fields, **other})
            self.assertIs(is_linked(self.unit, "x", strange, keep=("k",)), False, other)

    def test_of_anything(self):
        for thing in anything():
            self.assertIs(is_linked(self.unit, "x", thing), False)

    def test_refused_units(self):
        good = Image((0,), ((0, 1, "code", 1),), (), 0, notes=((0, "a", "m", (("x", 0),), ((0, 5),)),))
        unit = unit_of("part a", "told x", "code m 1", "x:", "halt")
        self.assertTrue(is_linked(unit, "x", good))
        for rows, more in (
                (["part b", "told x", "code m 1", "x:", "halt"], {}),
                (["part b", "data m 1", "held gone"], {}),
                (["part b", "code m 1", "go d", "halt", "part c", "told d", "data m 1", "d:", "bytes 1"], {}),
                (["part b", "data m 1", "d:", "held d+2"], {}), (["part b"], {"keep": ("gone",)}), (["part b"], {"entry": "y"})):
            other = Unit(unit.parts + unit_of(*rows).parts)
            told = {"entry": "x", **more}
            self.assertIs(is_linked(other, thing=good, **told), False)
        rooms = [row for letter in "bcdefghijkl" for row in (f"room {letter} 1", f"{letter}:", "leave 4000")]
        points = [f"point p {letter}" for letter in "bcdefghijkl"]
        great = unit_of("part a", "told x", "code m 1", "x:", *points, "halt", *rooms)
        self.assertIs(is_linked(great, "x", good), False)

    def test_whatever_units(self):
        chance = random.Random(3)
        linked = 0
        while linked < 40:
            unit = chance_unit(chance, told=0.9, soft=0.95)
            for name in unit.parts[0].told:
                try:
                    made = link([unit], name)
                except (KeyError, LookupError, TypeError):
                    self.assertFalse(is_linked(unit, name, None))
                    continue
                linked += 1
                self.assertTrue(is_linked(unit, name, made))
                self.assertFalse(is_linked(unit, name, Image(made.data, made.stretches, made.holds, made.entry)))


if __name__ == "__main__":
    unittest.main()
