"""[21]: parts and units."""

import unittest

from byteround.errors import NoUnit
from byteround.things import Part, Stretch, Unit
from tests.anything import Row, Rows, Text, anything, is_exact

LEADERS = (0x61, 0x63, 0x68, 0x69, 0x6a, 0x6b)
POINTS = (0x70, 0x71)


def code(name, *, held=(), labels=(), byte=0x61):
    """Code that holds names by full fields, one behind another, with labels at its begin."""
    data = (byte, 0, 0) * len(held) + (0,)
    holds = tuple((3 * k + 1, "full", what, 0) for k, what in enumerate(held))
    return Stretch(name, kind="code", data=data, labels=tuple((label, 0) for label in labels), holds=holds)


def near_code(name, label):
    """Code that goes to its own label by a near field."""
    return Stretch(name, kind="code", data=(0x60, 0), labels=((label, 0),), holds=((1, "near", label, 0),))


def data(name, *, held=(), labels=()):
    """Data that holds names, one behind another, with labels at its begin."""
    holds = tuple((2 * k, "full", what, 0) for k, what in enumerate(held))
    return Stretch(
        name, kind="data", data=(0, 0) * len(held) + (9,), labels=tuple((label, 0) for label in labels), holds=holds)


def room(name, *, labels=()):
    return Stretch(name, kind="room", size=5, labels=tuple((label, 0) for label in labels))


class Case(unittest.TestCase):
    def refused(self, field, name="part", **more):
        with self.assertRaises(NoUnit, msg=(name, more)) as caught:
            Part(name, **more)
        self.assertEqual(caught.exception.field, field)

    def not_unit(self, parts):
        with self.assertRaises(NoUnit, msg=parts) as caught:
            Unit(parts)
        self.assertEqual(caught.exception.field, "parts")


class Fields(Case):
    def test_all_told(self):
        stretches = (code("main", held=("far", "box", "gone"), labels=("main", "nain")), data("box", held=("box",)))
        made = Part(soft=("far", "gone"), weak=("nain",), told=("main",), stretches=stretches, name="lone")
        self.assertEqual(made.name, "lone")
        self.assertEqual(made.stretches, stretches)
        self.assertEqual((made.told, made.weak, made.soft), (("main",), ("nain",), ("far", "gone")))

    def test_defaults(self):
        made = Part("lone")
        self.assertEqual((made.name, made.stretches, made.told, made.weak, made.soft), ("lone", (), (), (), ()))
        with self.assertRaises(TypeError):
            Part("lone", ())

    def test_lists_are_told_as_tuples_and_may_change_behind(self):
        lists = {"stretches": [code("main", held=("x",), labels=("a", "b"))], "told": ["a"], "weak": ["b"], "soft": ["x"]}
        made = Part("lone", **lists)
        for handed in lists.values():
            handed.append("zzz")
        self.assertEqual(made.stretches, (code("main", held=("x",), labels=("a", "b")),))
        self.assertEqual((made.told, made.weak, made.soft), (("a",), ("b",), ("x",)))
        self.assertEqual(lists["told"], ["a", "zzz"])

    def test_exactly_the_builtin_kinds(self):
        made = Part(
            Text("lone"), stretches=Row([code("main", held=("x",), labels=("a", "b"))]), told=Rows([Text("a")]),
            weak=Row([Text("b")]), soft=Rows([Text("x")]))
        self.assertTrue(is_exact([made.name, made.told, made.weak, made.soft]))
        self.assertIs(type(made.stretches), tuple)
        self.assertIs(type(Unit(Row([made])).parts), tuple)

    def test_names(self):
        for name in ("a", "abcdefgh"):
            self.assertEqual(Part(name).name, name)
        for name in ("", "abcdefghi", "A", "a1", "a ", None, 0, True, ("a",), ["a"]):
            self.refused("name", name=name)


class Stretches(Case):
    def test_names_twice(self):
        self.refused("stretches", stretches=(data("a"), data("a")))
        self.refused("stretches", stretches=(data("a"), room("b"), code("a")))
        Part("lone", stretches=(data("a"), room("b"), code("c")))

    def test_labels_twice(self):
        self.refused("stretches", stretches=(data("a", labels=("x",)), room("b", labels=("x",))))
        self.refused("stretches", stretches=(data("a", labels=("w", "x")), data("b"), code("c", labels=("x", "y"))))
        Part("lone", stretches=(data("a", labels=("x",)), room("b", labels=("y",))))

    def test_a_label_may_have_a_stretchs_name(self):
        Part("lone", stretches=(data("a", labels=("a", "b")), room("b")))

    def test_what_leads_to_a_label_that_is_not_code(self):
        for other in (data("box", labels=("x",)), room("box", labels=("x",))):
            for byte in LEADERS:
                main = code("main", held=("y", "x"), byte=byte)
                self.refused("stretches", stretches=(main, other))
                self.refused("stretches", stretches=(other, main))
                Part("lone", stretches=(main,))
                Part("lone", stretches=(main, code("box", labels=("x",))))
            for byte in POINTS:
                Part("lone", stretches=(code("main", held=("x", "x"), byte=byte), other))
            Part("lone", stretches=(data("main", held=("x",)), other))
        self.refused("stretches", stretches=(code("main", held=("x",)), data("box", labels=("x",))), weak=("x",))

    def test_of_other_things(self):
        for thing in anything():
            if not isinstance(thing, (list, tuple)) or len(thing) > 0 and not isinstance(thing[0], Stretch):
                self.refused("stretches", stretches=thing)
            if not isinstance(thing, Stretch):
                self.refused("stretches", stretches=(thing,))
                self.refused("stretches", stretches=[data("a"), thing])
        self.refused("stretches", stretches=data("a"))
        self.refused("stretches", stretches={"a": data("a")})


class Names(Case):
    HEAD = (code("main", held=("far", "gone", "a"), labels=("a", "b", "c")), room("space", labels=("d",)))

    def test_right_ones(self):
        for told, weak in (((), ()), (("a", "b", "c", "d"), ()), ((), ("a", "b", "c", "d")), (("a", "d"), ("b", "c"))):
            made = Part("lone", stretches=self.HEAD, told=told, weak=weak)
            self.assertEqual((made.told, made.weak), (told, weak))
        for soft in ((), ("far",), ("gone",), ("far", "gone")):
            self.assertEqual(Part("lone", stretches=self.HEAD, soft=soft).soft, soft)

    def test_no_labels(self):
        for names in (("x",), ("a", "x"), ("far",), ("main",), ("a", "b", "c", "d", "e")):
            self.refused("told", stretches=self.HEAD, told=names)
            self.refused("weak", stretches=self.HEAD, weak=names)
        self.refused("told", told=("a",))
        self.refused("weak", weak=("a",))

    def test_out_of_order_and_twice(self):
        for names in (("b", "a"), ("a", "a"), ("a", "c", "b"), ("a", "b", "b")):
            self.refused("told", stretches=self.HEAD, told=names)
            self.refused("weak", stretches=self.HEAD, weak=names)
        for names in (("gone", "far"), ("far", "far")):
            self.refused("soft", stretches=self.HEAD, soft=names)

    def test_names_rise_as_texts_do(self):
        stretches = (room("space", labels=("a", "aa", "b")),)
        Part("lone", stretches=stretches, told=("a", "aa", "b"))
        self.refused("told", stretches=stretches, told=("a", "b", "aa"))

    def test_in_both(self):
        self.refused("weak", stretches=self.HEAD, told=("a", "b"), weak=("b",))
        self.refused("weak", stretches=self.HEAD, told=("a",), weak=("a", "b"))

    def test_soft_ones(self):
        for names in (("x",), ("a",), ("b",), ("d",), ("a", "far"), ("far", "x"), ("main",)):
            self.refused("soft", stretches=self.HEAD, soft=names)
        self.refused("soft", soft=("far",))

    def test_soft_ones_that_data_and_points_hold(self):
        self.assertEqual(Part("lone", stretches=(data("box", held=("far",)),), soft=("far",)).soft, ("far",))
        self.assertEqual(Part("lone", stretches=(code("box", held=("far",), byte=0x70),), soft=("far",)).soft, ("far",))

    def test_a_near_name_that_is_weak(self):
        stretches = (near_code("main", "a"), code("more", held=("b",), labels=("b",)))
        Part("lone", stretches=stretches, told=("a",), weak=("b",))
        self.refused("weak", stretches=stretches, weak=("a",))
        self.refused("weak", stretches=stretches, weak=("a", "b"))

    def test_of_other_things(self):
        for field in ("told", "weak", "soft"):
            for thing in anything():
                if not isinstance(thing, (list, tuple)) or len(thing) > 0 and thing != ["a"]:
                    self.refused(field, stretches=self.HEAD, **{field: thing})
                if thing != "a":
                    self.refused(field, stretches=self.HEAD, **{field: [thing]})
            self.refused(field, stretches=self.HEAD, **{field: "a"})
            self.refused(field, stretches=self.HEAD, **{field: {"a": 1}})


class TheFirst(Case):
    ORDER = ("name", "stretches", "told", "weak", "soft")

    def test_of_several_wrong_ones(self):
        wrongs = {"name": "A", "stretches": (data("a"), data("a")), "told": ("x",), "weak": ("x",), "soft": ("x",)}
        for k, first in enumerate(self.ORDER):
            for later in self.ORDER[k:]:
                self.refused(first, **{first: wrongs[first], later: wrongs[later]})
            self.refused(first, **{field: wrongs[field] for field in self.ORDER[k:]})


class Units(Case):
    def test_parts(self):
        one, other = Part("a", stretches=(data("box", held=("x", "y")), room("space"))), Part("b")
        for parts in ((one,), (one, other), (one, one), (other, one, other), (Part("a"), Part("a"))):
            self.assertEqual(Unit(parts).parts, parts)
            self.assertEqual(Unit(parts=list(parts)).parts, parts)

    def test_lengths(self):
        one, other = Part("a", stretches=(data("box", held=("x", "y")), room("space"))), Part("b")
        self.assertEqual(len(Unit((other,))), 0)
        self.assertEqual(len(Unit((one,))), 10)
        self.assertEqual(len(Unit((one, other, one))), 20)

    def test_a_list_may_change_behind(self):
        parts = [Part("a")]
        made = Unit(parts)
        parts.append(Part("b"))
        self.assertEqual(made.parts, (Part("a"),))
        self.assertEqual(len(parts), 2)

    def test_of_other_things(self):
        for thing in anything():
            if not isinstance(thing, tuple) or len(thing) == 0 or not isinstance(thing[0], Part):
                self.not_unit(thing)
            if not isinstance(thing, Part):
                self.not_unit((thing,))
                self.not_unit([Part("a"), thing])
        for thing in ((), [], Part("a"), {"a": Part("a")}, (data("a"),), Unit((Part("a"),)), (Unit((Part("a"),)),)):
            self.not_unit(thing)


class Equal(Case):
    RIGHT = {"name": "lone", "stretches": (code("main", held=("x", "y"), labels=("a", "b", "c")),), "told": ("a",),
             "weak": ("b",), "soft": ("x",)}
    OTHERS = ({"name": "alone"}, {"stretches": (code("main", held=("x",), labels=("a", "b", "c")),)}, {"told": ()},
              {"told": ("a", "c")}, {"weak": ()}, {"weak": ("c",)}, {"soft": ()}, {"soft": ("y",)},
              {"stretches": (code("main", held=("x", "y"), labels=("a", "b", "c")), room("space"))})

    def test_parts(self):
        one = Part(**self.RIGHT)
        self.assertTrue(one == Part(**{key: worth if key == "name" else list(worth) for key, worth in self.RIGHT.items()}))
        self.assertFalse(one != Part(**self.RIGHT))
        for more in self.OTHERS:
            self.assertFalse(one == Part(**{**self.RIGHT, **more}), more)
            self.assertTrue(one != Part(**{**self.RIGHT, **more}), more)

    def test_units(self):
        one = Part(**self.RIGHT)
        self.assertTrue(Unit((one, Part("b"))) == Unit([Part(**self.RIGHT), Part("b")]))
        for more in self.OTHERS:
            self.assertFalse(Unit((one,)) == Unit((Part(**{**self.RIGHT, **more}),)), more)
        self.assertFalse(Unit((one,)) == Unit((one, one)))
        self.assertFalse(Unit((one, Part("b"))) == Unit((Part("b"), one)))

    def test_equal_to_nothing_else(self):
        for made in (Part("other"), Unit((Part("other"),))):
            for thing in anything() + ["other", ("other", (), (), (), ()), (Part("other"),)]:
                if thing is not made and not isinstance(thing, type(made)):
                    self.assertFalse(made == thing)
                    self.assertFalse(thing == made)


if __name__ == "__main__":
    unittest.main()
