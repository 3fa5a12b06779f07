"""[41]: what names mean."""

import unittest

from byteround.errors import Twice, Untold
from byteround.names import meaning
from byteround.things import Part, Stretch, Unit
from tests.anything import Text, is_exact


def part(name="a", *, labels=(), held=(), told=(), weak=(), soft=()):
    """A part of two stretches of data: the labels at offsets 0, 1 .. of the second one, the holds in the first one."""
    box = Stretch("h", kind="data", data=(0,) * (2 * len(held) + 1),
                  holds=[(2 * k, "full", name, 0) for k, name in enumerate(held)])
    own = Stretch("o", kind="data", data=(1,) * (len(labels) + 1), labels=[(name, k) for k, name in enumerate(labels)])
    return Part(name, stretches=(box, own), told=told, weak=weak, soft=soft)


class Case(unittest.TestCase):
    def means(self, expected, parts, name, number=None):
        told = meaning(Unit(parts), name, part=number)
        self.assertEqual(told, expected)
        self.assertTrue(is_exact(told))

    def untold(self, parts, name, number=None):
        with self.assertRaises(Untold) as caught:
            meaning(Unit(parts), name, part=number)
        self.assertEqual(caught.exception, Untold(name, number))


class OwnLabels(Case):
    def test_its_own(self):
        parts = [part(labels=("w", "x"), held=("x",)), part(labels=("x",))]
        self.means((0, 1, 1), parts, "x", 0)
        self.means((1, 1, 0), parts, "x", 1)
        self.untold(parts, "x")

    def test_its_own_ahead_of_one_told(self):
        parts = [part(labels=("x",), told=("x",)), part(labels=("w", "x"), held=("x",)), part(held=("x",))]
        self.means((1, 1, 1), parts, "x", 1)
        self.means((0, 1, 0), parts, "x", 0)
        self.means((0, 1, 0), parts, "x", 2)
        self.means((0, 1, 0), parts, "x")

    def test_a_weak_own_one_gives_way_to_one_told(self):
        parts = [part(labels=("w", "x"), held=("x",), weak=("x",)), part(labels=("x",), told=("x",))]
        self.means((1, 1, 0), parts, "x", 0)
        self.means((1, 1, 0), parts, "x", 1)
        self.means((1, 1, 0), parts, "x")
        self.means((1, 1, 0), parts[::-1][1:] + parts[1:], "x", 0)

    def test_a_weak_own_one_ahead_of_another_weak_one(self):
        parts = [part(labels=("x",), weak=("x",)), part(labels=("w", "x"), held=("x",), weak=("x",))]
        self.means((1, 1, 1), parts, "x", 1)
        self.means((0, 1, 0), parts, "x", 0)
        self.means((0, 1, 0), parts, "x")

    def test_a_weak_own_one_ahead_of_a_plain_one_of_another_part(self):
        parts = [part(labels=("x",)), part(labels=("w", "x"), weak=("x",))]
        self.means((1, 1, 1), parts, "x", 1)
        self.means((0, 1, 0), parts, "x", 0)
        self.means((1, 1, 1), parts, "x")


class OtherNames(Case):
    def test_the_told_one_ahead_of_a_weak_one(self):
        parts = [part(labels=("x",), weak=("x",)), part(labels=("w", "x"), told=("x",)), part(held=("x",))]
        self.means((1, 1, 1), parts, "x", 2)
        self.means((1, 1, 1), parts, "x")

    def test_the_first_weak_one(self):
        parts = [part(labels=("x",)), part(labels=("w", "x"), weak=("x",)), part(labels=("x",), weak=("x",)), part(held=("x",))]
        self.means((1, 1, 1), parts, "x", 3)
        self.means((1, 1, 1), parts, "x")

    def test_soft_ones(self):
        soft = part(held=("x",), soft=("x",))
        self.means(None, [soft], "x", 0)
        self.means(None, [part(labels=("x",)), soft], "x", 1)
        self.untold([soft], "x")
        self.untold([soft, part(held=("x",))], "x", 1)
        self.means((1, 1, 0), [soft, part(labels=("x",), told=("x",))], "x", 0)
        self.means((1, 1, 0), [soft, part(labels=("x",), weak=("x",))], "x", 0)

    def test_untold(self):
        self.untold([part(held=("x",))], "x", 0)
        self.untold([part(held=("x",)), part(labels=("x",))], "x", 0)
        self.untold([part()], "gone", 0)
        self.untold([part()], "gone")

    def test_names_that_no_hold_has(self):
        parts = [part(labels=("x",), told=("x",)), part(labels=("y",), weak=("y",)), part()]
        self.means((0, 1, 0), parts, "x", 2)
        self.means((1, 1, 0), parts, "y", 2)
        self.untold(parts, "z", 2)

    def test_where_a_label_is(self):
        room = Stretch("r", kind="room", size=9, labels=(("x", 8),))
        self.means((1, 2, 8), [part(), Part("b", stretches=[
            Stretch("k", kind="data", data=(1,)), Stretch("l", kind="data", data=(1,)), room], told=("x",))], "x")

    def test_a_name_of_another_class(self):
        self.means((0, 1, 0), [part(labels=("x",), told=("x",))], Text("x"))


class ToldTwice(Case):
    def twice(self, expected, parts, name, number=None):
        with self.assertRaises(Twice) as caught:
            meaning(Unit(parts), name, part=number)
        self.assertEqual(caught.exception, Twice(*expected))

    def test_the_first_two_parts(self):
        one = part(labels=("x",), told=("x",))
        self.twice(("x", 0, 1), [one, one], "x")
        self.twice(("x", 1, 3), [part(), one, part(), one, one], "x")
        self.twice(("x", 0, 2), [one, part(labels=("x",), weak=("x",)), one], "x", 1)

    def test_the_first_name(self):
        both = part(labels=("b", "c"), told=("b", "c"))
        self.twice(("b", 2, 3), [part(labels=("c",), told=("c",)), part(labels=("c",), told=("c",)), both, both], "c")
        self.twice(("b", 0, 2), [both, part(labels=("c",), told=("c",)), both], "c")

    def test_ahead_of_untold(self):
        one = part(labels=("x",), told=("x",))
        self.twice(("x", 0, 1), [one, one], "gone")
        self.twice(("x", 0, 1), [one, one], "gone", 0)

    def test_weak_ones_may_come_again(self):
        one = part(labels=("x",), weak=("x",))
        self.means((0, 1, 0), [one, one], "x")


if __name__ == "__main__":
    unittest.main()
