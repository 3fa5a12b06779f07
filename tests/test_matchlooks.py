"""[50]: looks at papers by which two images are one program."""

import random
import unittest

from byteround.apart import taken_apart
from byteround.linking import link
from byteround.matching import same_program
from byteround.matchlooks import shows_same
from tests.anything import Number, Row, Rows, anything
from tests.samples import code_image
from tests.test_matching import linked, unit_of
from tests.test_whole import linked_ones

MAIN = unit_of("part a", "told x", "code m 1", "x:", "point p d", "call f", "halt")
MORE = unit_of("part b", "told d", "told f", "told k", "code m 2", "f:", "back", "data n 4", "d:", "held f", "bytes 7",
               "data o 1", "k:", "bytes 1")
ONE, OTHER = link([MAIN, MORE], "x"), link([MORE, MAIN], "x", keep=("k",))
PAPER = [(0, 3), (1, 0), (2, 1)]


class ShowsSame(unittest.TestCase):
    def looks(self, expected, thing, one=ONE, other=OTHER):
        self.assertIs(shows_same(one, other, thing), expected, thing)

    def test_what_is_told(self):
        self.assertEqual(same_program(ONE, OTHER), ("same", PAPER))
        self.looks(True, PAPER)
        self.looks(True, [(3, 0), (0, 1), (1, 2)], OTHER, ONE)
        self.looks(True, Rows(Row((Number(a), b)) for a, b in PAPER))
        self.assertIs(shows_same(thing=PAPER, other=OTHER, one=ONE), True)

    def test_any_order(self):
        chance = random.Random(1)
        for _ in range(10):
            thing = list(PAPER)
            chance.shuffle(thing)
            before = list(thing)
            self.looks(True, thing)
            self.assertEqual(thing, before)

    def test_out_twice_too_many_exchanged(self):
        for k in range(3):
            self.looks(False, PAPER[:k] + PAPER[k + 1:])
            self.looks(False, PAPER + PAPER[k:k + 1])
            self.looks(False, PAPER[:k] + [PAPER[k][::-1]] + PAPER[k + 1:])
            self.looks(False, PAPER[:k] + [(PAPER[k][0], 2)] + PAPER[k + 1:])
        # The stretch that the entry doesn't come to.
        self.looks(False, PAPER + [(3, 2)])
        self.looks(False, PAPER + [(0, 2)])
        self.looks(False, [(0, 0), (1, 3), (2, 1)])
        self.looks(False, [(0, 1), (1, 0), (2, 3)])
        self.looks(False, [])

    def test_not_come_to(self):
        one = linked("code m 1", "x:", "halt")
        kept = link([unit_of("part a", "told x", "told k", "code m 1", "x:", "halt", "data n 1", "k:", "bytes 1")], "x", keep=("k",))
        self.looks(True, [(0, 0)], kept, kept)
        self.looks(False, [(0, 0), (1, 1)], kept, kept)
        self.looks(False, [(1, 1)], kept, kept)
        self.looks(True, [(0, 0)], one, kept)

    def test_kinds(self):
        self.looks(False, tuple(PAPER))
        for k in range(3):
            self.looks(False, PAPER[:k] + [list(PAPER[k])] + PAPER[k + 1:])
        one = linked("code m 1", "x:", "go.long y", "code n 1", "y:", "halt")
        self.looks(True, [(0, 0), (1, 1)], one, one)
        for thing in ([(False, 0), (1, 1)], [(0, 0), (True, 1)], [(0, 0), (1, True)], [(0, False), (1, 1)],
                      [(0, 0, 0), (1, 1)], [(0,), (1, 1)], [(0, 0), (1, "1")], [(0, 0), (1, None)], [(0, 0), None],
                      {0: 0, 1: 1}, {(0, 0): (1, 1)}, [[(0, 0), (1, 1)]], [((0, 0), (1, 1))]):
            self.looks(False, thing, one, one)

    def test_no_one_program(self):
        one, other = code_image(0), code_image(1)
        for thing in ([(0, 0)], [], [(0, 1)], [(1, 0)]):
            self.looks(False, thing, one, other)
        two = linked("code m 1", "x:", "point p d", "point q d", "halt", "data n 1", "d:", "bytes 5")
        unlike = linked("code m 1", "x:", "point p d", "point q e", "halt", "data n 1", "d:", "bytes 5", "data o 1", "e:", "bytes 5")
        for thing in ([(0, 0), (1, 1)], [(0, 0), (1, 1), (1, 2)], [(0, 0), (1, 2)]):
            self.looks(False, thing, two, unlike)

    def test_of_anything(self):
        for thing in anything():
            for deep in (thing, [thing], [(thing, thing)], [(0, thing)], [(0, 0), thing], [(thing,)], {"a": thing}):
                self.looks(False, deep)
                self.looks(False, deep, code_image(0), code_image(1))
        self.looks(True, [(0, 0)], code_image(0), code_image(0))

    def test_by_chance(self):
        chance = random.Random(7)
        for units, entry, keep, image in linked_ones(71, 30):
            unit, name, more = taken_apart(image)
            other = link([unit], name, keep=more)
            paper = same_program(image, other)[1]
            chance.shuffle(paper)
            self.looks(True, paper, image, other)
            if paper:
                self.looks(False, paper[1:], image, other)
                self.looks(False, paper[1:] + paper[1:2], image, other)


if __name__ == "__main__":
    unittest.main()
