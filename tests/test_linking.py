"""[40], [42], [43], [44]: units joined and linked."""

import unittest

from byteround.assembling import assemble
from byteround.errors import Beyond, NoEntry, NoUnit, NotCode, TooGreat, Twice, Untold
from byteround.images import Image
from byteround.linking import BIGGEST, join, link, reached
from byteround.things import Part, Stretch, Unit
from tests.anything import Rows, Text, is_exact
from tests.chance import chance_units


def text_of(*rows):
    return "\n".join(rows)


def unit_of(*rows):
    return assemble(text_of(*rows))


class Case(unittest.TestCase):
    def refused(self, expected, units, entry, **more):
        for ask in (link, reached):
            with self.assertRaises(type(expected), msg=expected) as caught:
                ask(units, entry, **more)
            self.assertEqual(caught.exception, expected)


class Joins(unittest.TestCase):
    def test_all_parts_in_order(self):
        one, other = Unit([Part("a"), Part("b")]), Unit([Part("a")])
        self.assertEqual(join([one, other]), Unit([Part("a"), Part("b"), Part("a")]))
        self.assertEqual(join((other, one)), Unit([Part("a"), Part("a"), Part("b")]))
        self.assertEqual(join([one]), one)
        with self.assertRaises(NoUnit):
            join([])

    def test_names_told_twice_are_no_matter(self):
        one = unit_of("part a", "told x", "code m 1", "x:", "halt")
        self.assertEqual(len(join([one, one]).parts), 2)

    def test_in_whatever_grouping(self):
        units = chance_units(8, 6)
        self.assertEqual(join([join(units[:2]), join(units[2:3]), join(units[3:])]), join(units))

    def test_units_may_change_behind(self):
        units = Rows([Unit([Part("a")])])
        made = join(units)
        units.clear()
        self.assertEqual(made, Unit([Part("a")]))


class Images(Case):
    def test_a_whole_image(self):
        main = unit_of(
            "part main", "told main", "soft gone", "code go 4", "main:", "set a 3", "loop:", "if a loop", "point p box+1",
            "call help", "halt", "room big 2", "more:", "leave 300", "data box 8", "box:", "bytes 1 2", "held gone",
            "held more+299", "held help")
        helper = unit_of("part help", "told help", "code go 1", "out a", "help:", "go.long main", "back")
        made = link([main, helper], "main")
        self.assertEqual(made, Image(
            (0x14, 3, 0x64, 0xfe, 0x70, 0, 17, 0x63, 0, 25, 0x00, 0, 0, 0, 0, 0, 1, 2, 0, 0, 1, 0x49, 0, 25,
             0x04, 0x61, 0, 0, 0x01),
            ((0, 11, "code", 4), (16, 8, "data", 8), (24, 5, "code", 1), (30, 300, "room", 2)),
            ((5, 17), (8, 25), (18, None), (20, 329), (22, 25), (26, 0)), 0,
            notes=(
                (0, "main", "go", (("main", 0), ("loop", 2)), ((0, 6), (2, 8), (4, 9), (7, 10), (10, 11))),
                (0, "main", "box", (("box", 0),), ((0, 17), (2, 18), (4, 19), (6, 20))),
                (1, "help", "go", (("help", 1),), ((0, 4), (1, 6), (4, 7))),
                (0, "main", "big", (("more", 0),), ((0, 14),)))))
        self.assertEqual(len(made), 330)
        self.assertTrue(is_exact([made.data, made.stretches, made.holds, made.entry, made.notes]))

    def test_steps_and_fills(self):
        for step in (1, 2, 4, 8, 16):
            for size in (1, 2, 3, 5, 15, 16, 17):
                unit = Unit([Part("a", told=("x", "y", "z"), stretches=[
                    Stretch("m", kind="code", data=(0x04,) * size, labels=(("x", 0),)),
                    Stretch("r", kind="room", step=step, size=3, labels=(("z", 0),)),
                    Stretch("d", kind="data", step=step, data=(9, 9), labels=(("y", 1),))])])
                made = link([unit], "x", keep=("y", "z"))
                begin = -(-size // step) * step
                room = -(-(begin + 2) // step) * step
                self.assertEqual(made.stretches, ((0, size, "code", 1), (begin, 2, "data", step), (room, 3, "room", step)))
                self.assertEqual(made.data, (4,) * size + (0,) * (begin - size) + (9, 9))

    def test_rooms_behind_all_others(self):
        one = unit_of("part a", "told r", "room m 1", "r:", "leave 3", "data d 1", "d:", "bytes 1", "held r", "room n 1", "s:",
                      "leave 2")
        other = unit_of("part b", "told x", "code m 1", "x:", "point p r", "point q y", "halt", "data d 1", "y:",
                        "bytes 5")
        made = link([one, other], "x")
        self.assertEqual([stretch[2] for stretch in made.stretches], ["code", "data", "room"])
        self.assertEqual([note[:3] for note in made.notes], [(1, "b", "m"), (1, "b", "d"), (0, "a", "m")])

    def test_fields_that_lead_nowhere(self):
        unit = unit_of("part a", "told x", "soft s", "code m 1", "x:", "go s", "point p s", "if a s", "call s", "halt",
                       "data d 1", "y:", "held s", "held s+7")
        made = link([unit], "x", keep=())
        self.assertEqual(made.holds, ((1, None), (4, None), (7, None), (10, None)))
        self.assertEqual(made.data, (0x61, 0, 0, 0x70, 0, 0, 0x68, 0, 0, 0x63, 0, 0, 0))

    def test_nowhere_is_never_beyond(self):
        unit = unit_of("part a", "told x", "soft s", "code m 1", "x:", "point p s+65535", "go s", "data d 1", "held s+9")
        self.assertEqual(link([unit], "x").holds, ((1, None), (4, None)))

    def test_near_fields(self):
        unit = unit_of("part a", "told x", "code m 1", "x:", "halt", "y:", "go.short z", "call.short x", "if.short b y", "z:",
                       "if.short c z", *["halt"] * 5)
        self.assertEqual(link([unit], "x").data, (0, 0x60, 4, 0x62, 0xfb, 0x65, 0xfa, 0x66, 0xfe) + (0,) * 5)
        far = unit_of("part a", "told x", "code m 1", "x:", "go.short y", *["halt"] * 124, "go.short x", "halt", "y:", "halt")
        self.assertEqual(link([far], "x").data[1], 127)
        self.assertEqual(link([far], "x").data[127], 0x80)

    def test_whom_names_mean(self):
        weak = unit_of("part a", "weak f", "told x", "code m 1", "x:", "call f", "call g", "halt", "f:", "back")
        told = unit_of("part b", "told f", "code m 1", "halt", "f:", "back", "g:", "back")
        first = unit_of("part c", "weak g", "code m 1", "out a", "g:", "back")
        second = unit_of("part d", "weak g", "code m 1", "g:", "back")
        made = link([weak, told, first, second], "x")
        # Behind the first stretch of eight bytes: that of part b, of three, and that of part c.
        self.assertEqual(made.holds, ((1, 9), (4, 12)))
        self.assertEqual([note[1] for note in made.notes], ["a", "b", "c"])

    def test_an_entry_that_is_weak_in_two_parts(self):
        one = unit_of("part a", "weak x", "code m 1", "halt", "x:", "out a", "halt")
        made = link([one, one], "x")
        self.assertEqual((made.entry, made.stretches), (1, ((0, 3, "code", 1),)))
        told = unit_of("part b", "told x", "code m 1", "x:", "halt")
        made = link([one, told], "x")
        self.assertEqual((made.entry, made.notes[0][1]), (0, "b"))

    def test_names_and_lists(self):
        unit = unit_of("part a", "told x", "told y", "code m 1", "x:", "halt", "data d 1", "y:", "bytes 1")
        made = link((unit,), Text("x"), keep=[Text("y"), "y"])
        self.assertEqual(made, link(units=[unit], entry="x", shelves=[], keep=("y",)))
        self.assertTrue(is_exact([made.data, made.stretches, made.holds, made.entry, made.notes]))
        with self.assertRaises(TypeError):
            link([unit], "x", [])

    def test_in_whatever_grouping(self):
        units = [
            unit_of("part a", "told x", "code m 2", "x:", "call y", "go z", "halt"),
            unit_of("part b", "weak y", "code m 1", "y:", "point p d", "back", "data d 4", "d:", "bytes 1 2 3"),
            unit_of("part c", "told y", "code m 1", "y:", "back"), unit_of("part d", "told z", "code m 16", "z:", "halt")]
        made = link(units, "x")
        for groups in ([[0, 1], [2, 3]], [[0], [1, 2], [3]], [[0, 1, 2, 3]], [[0, 1, 2], [3]]):
            self.assertEqual(link([join([units[k] for k in group]) for group in groups], "x"), made)

    def test_from_shelves(self):
        one = unit_of("part a", "told x", "code m 1", "x:", "call y", "halt")
        two = unit_of("part b", "told y", "code m 1", "y:", "call z", "back")
        three = unit_of("part c", "told z", "told w", "code m 1", "w:", "out a", "z:", "back")
        made = link([one], "x", shelves=[[three], [two]])
        self.assertEqual(made, link([one, two, three], "x"))
        self.assertEqual([note[:2] for note in made.notes], [(0, "a"), (1, "b"), (2, "c")])
        self.assertEqual(link([], "w", shelves=[[two, three]]), link([three], "w"))
        self.assertEqual(link([one], "x", shelves=[[three], [two]], keep=["w"]), link([one, three, two], "x"))


class Kept(Case):
    def reaches(self, expected, units, entry, **more):
        told = reached(units, entry, **more)
        self.assertEqual(told, expected)
        self.assertTrue(is_exact(told))
        kept = [row[:2] for row in expected]
        image = link(units, entry, **more)
        names = sorted((note[0], note[2]) for note in image.notes)
        parts = [part for unit in units for part in unit.parts]
        self.assertEqual(names, sorted((part, parts[part].stretches[k].name) for part, k in kept))

    def test_just_the_entrys(self):
        unit = unit_of("part a", "told x", "code m 1", "halt", "code n 1", "x:", "halt", "data d 1", "held x")
        self.reaches([(0, 1, None)], [unit], "x")

    def test_by_holds(self):
        unit = unit_of(
            "part a", "told x", "code m 1", "x:", "y:", "go.short y", "point p d+1", "call f", "halt", "data d 1", "d:",
            "bytes 1", "held r", "room r 1", "r:", "leave 1", "code f 1", "f:", "back", "data e 1", "held x")
        self.reaches([(0, 0, None), (0, 1, (0, 0, 1)), (0, 2, (0, 1, 0)), (0, 3, (0, 0, 2))], [unit], "x")

    def test_rings(self):
        unit = unit_of(
            "part a", "told x", "code m 1", "x:", "call f", "halt", "code f 1", "f:", "call g", "back", "code g 1", "g:",
            "call f", "back", "code h 1", "h:", "call i", "halt", "code i 1", "i:", "call h", "back")
        self.reaches([(0, 0, None), (0, 1, (0, 0, 0)), (0, 2, (0, 1, 0))], [unit], "x")

    def test_those_of_keep(self):
        unit = unit_of(
            "part a", "told x", "told d", "weak e", "code m 1", "x:", "halt", "data d 1", "d:", "held r", "data e 1", "e:",
            "bytes 1", "room r 1", "r:", "leave 1", "data f 1", "bytes 2")
        self.reaches([(0, 0, None)], [unit], "x")
        self.reaches([(0, 0, None), (0, 1, None), (0, 3, (0, 1, 0))], [unit], "x", keep=("d",))
        self.reaches([(0, 0, None), (0, 2, None)], [unit], "x", keep=("e", "e", "x"))
        self.reaches([(0, 0, None), (0, 1, None), (0, 2, None), (0, 3, (0, 1, 0))], [unit], "x", keep=["e", "d"])

    def test_a_kept_one_to_which_a_hold_leads_is_told_by_none(self):
        unit = unit_of("part a", "told x", "told d", "code m 1", "x:", "point p d", "halt", "data d 1", "d:", "held x")
        self.reaches([(0, 0, None), (0, 1, None)], [unit], "x", keep=("d",))
        self.reaches([(0, 0, None), (0, 1, (0, 0, 0))], [unit], "x")

    def test_by_what_a_name_means(self):
        # The hold of another part that is weak there means the told one.
        one = unit_of("part a", "told x", "weak f", "code m 1", "x:", "call f", "halt", "code f 1", "f:", "back")
        two = unit_of("part b", "told f", "code m 1", "f:", "back")
        self.reaches([(0, 0, None), (1, 0, (0, 0, 0))], [one, two], "x")
        self.reaches([(0, 0, None), (0, 1, (0, 0, 0))], [one], "x")

    def test_nowhere_leads_to_none(self):
        unit = unit_of("part a", "told x", "soft s", "code m 1", "x:", "go s", "halt", "data d 1", "y:", "bytes 1")
        self.reaches([(0, 0, None)], [unit], "x")

    def test_parts_of_shelves(self):
        one = unit_of("part a", "told x", "code m 1", "x:", "call y", "halt")
        two = unit_of("part b", "told y", "data d 1", "bytes 1", "code m 1", "y:", "back")
        self.assertEqual(reached([one], "x", shelves=[[two]]), [(0, 0, None), (1, 1, (0, 0, 0))])

    def test_what_is_told_may_be_changed(self):
        unit = unit_of("part a", "told x", "code m 1", "x:", "halt")
        reached([unit], "x").clear()
        self.assertEqual(reached([unit], "x"), [(0, 0, None)])

    def test_not_refused_as_too_great(self):
        rows = [row for k in range(11) for row in (f"room {'abcdefghijk'[k]} 1", f"r{'abcdefghijk'[k]}:", "leave 4000")]
        points = [f"point p r{letter}" for letter in "abcdefghijk"]
        unit = unit_of("part a", "told x", "code m 1", "x:", *points, "halt", *rows)
        self.assertEqual(len(reached([unit], "x")), 12)
        with self.assertRaises(TooGreat):
            link([unit], "x")


class Refusals(Case):
    def test_entries(self):
        unit = unit_of("part a", "told x", "told d", "weak w", "weak e", "code m 1", "x:", "halt", "y:", "halt", "w:", "halt",
                       "data d 1", "d:", "bytes 1", "e:", "bytes 2")
        for name in ("gone", "y", "d", "e"):
            self.refused(NoEntry(name), [unit], name)
        room = unit_of("part b", "told r", "room r 1", "r:", "leave 1")
        self.refused(NoEntry("r"), [unit, room], "r")
        self.assertEqual(link([unit], "w").entry, 2)
        # The told one in data goes ahead of the weak one in code.
        data = unit_of("part b", "told w", "data m 1", "w:", "bytes 1")
        self.refused(NoEntry("w"), [unit, data], "w")
        self.refused(NoEntry("main"), [], "main")

    def test_names_to_be_kept(self):
        unit = unit_of("part a", "told x", "weak w", "code m 1", "x:", "halt", "y:", "halt", "data d 1", "w:", "bytes 1")
        for keep, name in ((("y",), "y"), (("gone",), "gone"), (("x", "z", "b", "w"), "b"), (("zz", "z"), "z"),
                           (("y", "c", "c"), "c")):
            self.refused(NoEntry(name), [unit], "x", keep=keep)
        self.refused(NoEntry("gone"), [unit], "gone", keep=("a",))
        self.assertEqual(len(link([unit], "x", keep=("w", "x", "w"))), 3)

    def test_untold(self):
        unit = unit_of("part b", "told x", "code m 1", "x:", "halt", "data d 1", "held y", "held z")
        other = unit_of("part c", "code m 1", "z:", "call f", "halt")
        self.refused(Untold("y", 0), [unit], "x")
        self.refused(Untold("f", 0), [other, unit], "x")
        self.refused(Untold("y", 0), [unit, other], "x")
        told = unit_of("part a", "told y", "data d 1", "y:", "bytes 1")
        self.refused(Untold("z", 1), [told, unit], "x")
        # Also where nobody reaches it.
        aside = unit_of("part d", "told w", "code m 1", "w:", "halt")
        self.refused(Untold("f", 1), [aside, other], "w")

    def test_not_code(self):
        for kind, row in (("data", "bytes 1"), ("room", "leave 1")):
            box = unit_of("part a", "told y", f"{kind} d 1", "y:", row)
            for word in ("go", "call", "if a", "go.long"):
                unit = unit_of("part b", "told x", "code m 1", "x:", f"{word} y", "halt")
                self.refused(NotCode("y", 0), [unit, box], "x")
                self.refused(NotCode("y", 1), [box, unit], "x")
            point = unit_of("part b", "told x", "code m 1", "x:", "point p y", "halt")
            self.assertEqual(len(link([point, box], "x")), 5)
            # Its own weak label is code, but the told one isn't.
            weak = unit_of("part b", "told x", "weak y", "code m 1", "x:", "go y", "y:", "halt")
            self.refused(NotCode("y", 0), [weak, box], "x")

    def test_beyond(self):
        def unit(row):
            return unit_of("part b", "told x", "soft s", "code m 1", "x:", "point p s", row, "halt", "data d 1", "bytes 1 2",
                           "d:", "bytes 3 4 5", "room r 1", "leave 1", "r:", "leave 8")
        for name, last in (("d", 2), ("r", 7)):
            for plus in range(1, 12):
                if plus <= last:
                    self.assertEqual(link([unit(f"point p {name}+{plus}")], "x").holds[1][0], 4)
                else:
                    self.refused(Beyond(name, 0), [unit(f"point p {name}+{plus}")], "x")
            self.refused(Beyond(name, 0), [unit(f"point p {name}+65535")], "x")
        # In code there is no plus.
        self.refused(Beyond("x", 0), [unit("point p x+1")], "x")
        self.refused(Beyond("x", 0), [unit("point p x+3")], "x")
        link([unit("point p x")], "x")

    def test_beyond_of_data(self):
        box = unit_of("part a", "told y", "data d 1", "bytes 1", "y:", "bytes 2 3")
        for plus, fits in ((1, True), (2, False), (500, False)):
            unit = unit_of("part b", "told x", "code m 1", "x:", "halt", "data d 1", f"held y+{plus}")
            if fits:
                link([unit, box], "x")
            else:
                self.refused(Beyond("y", 0), [unit, box], "x")
                self.refused(Beyond("y", 1), [box, unit], "x")

    def test_a_place_amid_a_held_field(self):
        unit = unit_of("part b", "told x", "code m 1", "x:", "point p d+2", "halt", "data d 1", "d:", "bytes 5", "held x")
        self.assertEqual(link([unit], "x").holds, ((1, 6), (5, 0)))

    def test_twice(self):
        one = unit_of("part a", "told x", "told b", "code m 1", "x:", "b:", "halt")
        two = unit_of("part a", "told b", "code m 1", "b:", "halt")
        self.refused(Twice("b", 0, 1), [one, two], "x")
        self.refused(Twice("b", 0, 2), [one, unit_of("part a"), two], "gone", keep=("gone",))
        self.refused(Twice("b", 0, 1), [one, one], "x")
        wants = unit_of("part a", "told b", "code m 1", "b:", "call x", "halt")
        self.refused(Twice("b", 0, 1), [wants], "b", shelves=[[one]])

    def test_too_great(self):
        self.assertEqual(BIGGEST, 40000)
        rows = [row for letter in "abcdefghi" for row in (f"room {letter} 1", f"r{letter}:", "leave 4000")]
        points = [f"point p r{letter}" for letter in "abcdefghij"]
        for more, fits in ((-1, True), (0, True), (1, False), (31, False)):
            unit = unit_of(
                "part a", "told x", "code m 1", "x:", *points, "halt", *rows, "room j 1", "rj:", f"leave {3969 + more}")
            if fits:
                self.assertEqual(len(link([unit], "x")), 40000 + more)
            else:
                with self.assertRaises(TooGreat) as caught:
                    link([unit], "x")
                self.assertEqual(caught.exception, TooGreat(40000 + more))

    def test_what_is_left_out_does_not_count_to_the_size(self):
        rows = [row for k in range(12) for row in (f"data {'abcdefghijkl'[k]} 1", "zeros 4000")]
        unit = unit_of("part a", "told x", "code m 1", "x:", "halt", *rows)
        self.assertEqual(len(link([unit], "x")), 1)

    def test_the_order_of_refusals(self):
        # Of holds, the first that is wrong goes ahead, whatever it is refused with.
        box = unit_of("part z", "told d", "data d 1", "d:", "bytes 1")

        def unit(*rows):
            return unit_of("part a", "told x", "code m 1", "x:", *rows, "halt")
        wrong = {"go gone": Untold("gone", 0), "go d": NotCode("d", 0), "point p d+1": Beyond("d", 0)}
        for one in wrong:
            for other in wrong:
                self.refused(wrong[one], [unit(one, other), box], "x")
            self.refused(NoEntry("y"), [unit(one), box], "y")
            self.refused(NoEntry("y"), [unit(one), box], "x", keep=("y",))
            self.refused(wrong[one], [unit(one), box], "x", keep=("d",))
            self.refused(NoEntry("d"), [unit(one), box], "d", keep=("y",))
        self.refused(Twice("d", 1, 2), [unit("go gone"), box, box], "y", keep=("z",))

    def test_one_hold_that_is_wrong_twice(self):
        box = unit_of("part z", "told d", "data d 1", "d:", "bytes 1")
        # A go has no plus; a point beyond is not NotCode.
        self.refused(Beyond("d", 0), [unit_of("part a", "told x", "code m 1", "x:", "point p d+9", "halt"), box], "x")
        self.refused(Untold("e", 0), [unit_of("part a", "told x", "code m 1", "x:", "point p e+9", "halt"), box], "x")

    def test_parts_stretches_and_offsets_in_order(self):
        one = unit_of("part a", "told x", "data d 1", "held b", "held a", "code m 1", "x:", "go c", "halt")
        two = unit_of("part b", "data d 1", "held d")
        self.refused(Untold("b", 0), [one, two], "x")
        self.refused(Untold("d", 0), [two, one], "x")
        giver = unit_of("part c", "told a", "told b", "told d", "data m 1", "a:", "b:", "d:", "bytes 1")
        self.refused(Untold("c", 0), [one, two, giver], "x")
        self.refused(Untold("c", 2), [two, giver, one], "x")

    def test_too_great_behind_all_others(self):
        rows = [row for letter in "abcdefghijk" for row in (f"room {letter} 1", f"r{letter}:", "leave 4000")]
        points = [f"point p r{letter}" for letter in "abcdefghijk"]
        unit = unit_of("part a", "told x", "code m 1", "x:", *points, "go gone", "halt", *rows)
        self.refused(Untold("gone", 0), [unit], "x")


if __name__ == "__main__":
    unittest.main()
