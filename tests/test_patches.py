"""[70], [71], [72], [73]: patches of rows of bytes."""

import itertools
import random
import unittest

from byteround.errors import Clash, Misfit, NoPatch
from byteround.patches import Patch, chained, fitted, merged, patch_between, shifted, turned_back
from tests.anything import Number, Row, Rows, anything, is_exact

EMPTY = ()


class Case(unittest.TestCase):
    def no_patch(self, spot, length, spots):
        with self.assertRaises(NoPatch, msg=(length, spots)) as caught:
            Patch(length, spots)
        self.assertEqual(caught.exception, NoPatch(spot), (length, spots))

    def misfit(self, at, function, *args):
        with self.assertRaises(Misfit) as caught:
            function(*args)
        self.assertEqual(caught.exception, Misfit(at))

    def clash(self, at, one, other):
        for function, first, second in ((merged, one, other), (merged, other, one), (shifted, one, other), (shifted, other, one)):
            with self.assertRaises(Clash, msg=(one.spots, other.spots)) as caught:
                function(first, second)
            self.assertEqual(caught.exception, Clash(at), (one.spots, other.spots))


def chance_patch(chance, length):
    """A patch of few spots and few unlike bytes."""
    spots, at = [], 0
    for _ in range(chance.randrange(4)):
        at += chance.randrange(3)
        old, new = (tuple(chance.randrange(2) for _ in range(chance.randrange(3))) for _ in range(2))
        if at + len(old) > length:
            break
        if old or new:
            spots.append((at, old, new))
            at += len(old) + 1
    return Patch(length, spots)


def behind(patch):
    return patch.length + sum(len(new) - len(old) for _, old, new in patch.spots)


def rows_of(length):
    return itertools.product(range(2), repeat=length)


def made(function, *args):
    """What the function tells, None where it refuses with Misfit."""
    try:
        return function(*args)
    except Misfit:
        return None


class Fields(Case):
    spots = ((0, EMPTY, (1,)), (1, (2, 3), EMPTY), (4, (5,), (5,)), (9, (6,), (7, 8)))

    def test_told(self):
        patch = Patch(10, self.spots)
        self.assertEqual((patch.length, patch.spots, len(patch)), (10, self.spots, 4))
        self.assertEqual((Patch(0).length, Patch(0).spots, len(Patch(7))), (0, (), 0))
        self.assertEqual(Patch(spots=[], length=3), Patch(3))
        odd = Patch(Number(10), Rows([Row((Number(1), Row((Number(2),)), ()))]))
        self.assertTrue(is_exact([odd.length, odd.spots]))
        self.assertEqual(odd, Patch(10, ((1, (2,), ()),)))

    def test_lists_may_change_behind(self):
        spots = list(self.spots)
        patch = Patch(10, spots)
        spots.clear()
        self.assertEqual(patch.spots, self.spots)

    def test_equal(self):
        self.assertTrue(Patch(10, self.spots) == Patch(10, list(self.spots)))
        for other in (Patch(11, self.spots), Patch(10, self.spots[:3]), Patch(10), (10, self.spots), None):
            self.assertFalse(Patch(10, self.spots) == other)
            self.assertTrue(Patch(10, self.spots) != other)
        for thing in anything():
            self.assertFalse(Patch(0) == thing)

    def test_at_the_length(self):
        self.assertEqual(len(Patch(3, [(3, EMPTY, (1,))])), 1)
        self.assertEqual(len(Patch(3, [(1, (1, 1), EMPTY)])), 1)
        self.assertEqual(len(Patch(0, [(0, EMPTY, (1,))])), 1)
        self.no_patch(0, 3, [(4, EMPTY, (1,))])
        self.no_patch(0, 3, [(3, (1,), (1,))])
        self.no_patch(0, 3, [(1, (1, 1, 1), EMPTY)])
        self.no_patch(1, 3, [(0, (1,), (2,)), (2, (1, 1), (2,))])
        self.no_patch(0, 0, [(0, (1,), EMPTY)])

    def test_the_length_and_the_kind_of_spots_first(self):
        for length in (-1, True, False, None, "3", 3.0, (3,), [3], -(10 ** 5000)):
            for spots in ((), [], ((0, (), ()),), None, 5):
                self.no_patch(None, length, spots)
        for spots in (None, True, 5, "", "abc", {}, {0: 1}, NoPatch(1)):
            self.no_patch(None, 3, spots)
            self.no_patch(None, -1, spots)
        for thing in anything():
            if type(thing) is not int or thing < 0:
                self.no_patch(None, thing, ())
            if not isinstance(thing, (list, tuple)):
                self.no_patch(None, 3, thing)

    def test_spots_that_are_none(self):
        good = (0, (1,), (2,))
        for bad in anything() + [
                (), (3,), (3, (1,)), (3, (1,), (2,), (3,)), [3, (1,), (2,)], (3, [1], (2,)), (3, (1,), [2]), (3, (), ()),
                (3, (256,), ()), (3, (), (-1,)), (3, (True,), ()), (3, (), (False,)), (3, None, (1,)), (3, (1,), None),
                (True, (1,), (2,)), ("3", (1,), (2,)), (None, (1,), (2,)), (-1, (1,), (2,)), (3, "a", (1,)), (3, b"a", (1,))]:
            self.no_patch(0, 9, [bad])
            self.no_patch(1, 9, (good, bad))
            self.no_patch(1, 9, (good, bad, (20, (), ())))

    def test_spots_too_near_or_out_of_order(self):
        for one, other, is_good in (
                ((2, (1,), (2,)), (4, (1,), (2,)), True), ((2, (1,), (2,)), (3, (1,), (2,)), False),
                ((2, (1,), (2,)), (2, (1,), (2,)), False), ((2, (1,), (2,)), (0, (1,), (2,)), False),
                ((2, EMPTY, (2,)), (3, (1,), (2,)), True), ((2, EMPTY, (2,)), (2, (1,), (2,)), False),
                ((2, EMPTY, (2,)), (2, EMPTY, (3,)), False), ((2, (1, 1), EMPTY), (5, EMPTY, (2,)), True),
                ((2, (1, 1), EMPTY), (4, EMPTY, (2,)), False), ((2, (1, 1), EMPTY), (3, EMPTY, (2,)), False),
                ((2, (1, 1, 1), (1,)), (4, (1,), (2,)), False)):
            if is_good:
                self.assertEqual(Patch(9, [one, other]).spots, (one, other))
            else:
                self.no_patch(1, 9, [one, other])
                # The later one isn't so, whatever it is.
                self.no_patch(1, 9, [one, other, one])
                self.no_patch(2, 20, [(0, EMPTY, (9,)), one[:0] + (one[0] + 5, *one[1:]), (other[0] + 5, *other[1:])])


class Fitted(Case):
    patch = Patch(6, [(0, (1,), (9, 9)), (2, EMPTY, (7,)), (3, (4, 5), EMPTY), (6, EMPTY, (8,))])

    def test_fits(self):
        self.assertEqual(fitted(self.patch, (1, 2, 3, 4, 5, 6)), (9, 9, 2, 7, 3, 6, 8))
        self.assertEqual(fitted(Patch(0), ()), ())
        self.assertEqual(fitted(Patch(2), (1, 2)), (1, 2))
        self.assertEqual(fitted(row=(), patch=Patch(0, [(0, EMPTY, (3,))])), (3,))
        self.assertEqual(fitted(Patch(1, [(0, (3,), EMPTY)]), (3,)), ())
        self.assertTrue(is_exact(fitted(Patch(1), Row((Number(3),)))))

    def test_bytes_otherwise(self):
        for row, at in (((0, 2, 3, 4, 5, 6), 0), ((0, 2, 3, 0, 0, 6), 0), ((1, 2, 3, 0, 0, 6), 3), ((1, 2, 3, 4, 0, 6), 4)):
            self.misfit(at, fitted, self.patch, row)
        self.misfit(0, fitted, Patch(1, [(0, (3,), (3,))]), (4,))

    def test_other_lengths(self):
        self.misfit(5, fitted, self.patch, (1, 2, 3, 4, 5))
        self.misfit(6, fitted, self.patch, (1, 2, 3, 4, 5, 6, 7))
        self.misfit(0, fitted, self.patch, ())
        # Behind the lesser length no byte counts.
        self.misfit(4, fitted, self.patch, (1, 2, 3, 4))
        self.misfit(0, fitted, self.patch, (0, 2, 3, 4))
        self.misfit(3, fitted, self.patch, (1, 2, 3, 0))
        self.misfit(4, fitted, self.patch, (1, 2, 3, 4, 6, 6, 6, 6))
        self.misfit(0, fitted, Patch(0), (5,))


class Between(Case):
    def between(self, one, other, *spots):
        patch = patch_between(one, other)
        self.assertEqual((patch.length, patch.spots), (len(one), spots))
        self.assertEqual(fitted(patch, one), other)

    def test_alike(self):
        for row in ((), (1,), (1, 1, 2)):
            self.between(row, row)
        self.assertEqual(patch_between(other=(1,), one=(2,)), Patch(1, [(0, (2,), (1,))]))

    def test_alike_long(self):
        self.between((1, 2, 3, 4, 5, 6, 7), (1, 0, 0, 4, 0, 6, 7), (1, (2, 3), (0, 0)), (4, (5,), (0,)))
        self.between((1, 2, 3), (0, 2, 0), (0, (1,), (0,)), (2, (3,), (0,)))
        self.between((1, 2), (3, 4), (0, (1, 2), (3, 4)))
        # As long, though one is moved.
        self.between((1, 2, 3, 9), (9, 1, 2, 3), (0, (1, 2, 3, 9), (9, 1, 2, 3)))
        self.between((5, 1, 5, 1), (1, 5, 1, 5), (0, (5, 1, 5, 1), (1, 5, 1, 5)))

    def test_one_longer(self):
        self.between((1, 2, 3), (1, 9, 9, 3), (1, (2,), (9, 9)))
        self.between((1, 2, 3), (1, 3), (1, (2,), EMPTY))
        self.between((1, 3), (1, 2, 3), (1, EMPTY, (2,)))
        self.between((), (1, 2), (0, EMPTY, (1, 2)))
        self.between((1, 2), (), (0, (1, 2), EMPTY))
        # Unlike ones of unlike lengths are one spot, whatever is alike between.
        self.between((1, 2, 3, 4, 5), (1, 0, 3, 0, 0, 5), (1, (2, 3, 4), (0, 3, 0, 0)))

    def test_the_begin_goes_first(self):
        self.between((7, 7), (7, 7, 7), (2, EMPTY, (7,)))
        self.between((7, 7, 7), (7, 7), (2, (7,), EMPTY))
        self.between((1, 2, 1, 2), (1, 2), (2, (1, 2), EMPTY))
        self.between((1, 2, 1), (1, 2, 1, 2, 1), (3, EMPTY, (2, 1)))

    def test_by_chance(self):
        chance = random.Random(3)
        for _ in range(300):
            one, other = (tuple(chance.randrange(2) for _ in range(chance.randrange(7))) for _ in range(2))
            patch = patch_between(one, other)
            self.assertEqual(fitted(patch, one), other)
            self.assertEqual(len(patch) == 0, one == other)
            self.assertEqual(fitted(turned_back(patch), other), one)


class TurnedBack(Case):
    def test_turned(self):
        patch = Patch(6, [(0, (1,), (9, 9)), (2, EMPTY, (7,)), (3, (4, 5), EMPTY), (6, EMPTY, (8,))])
        self.assertEqual(turned_back(patch), Patch(7, [(0, (9, 9), (1,)), (3, (7,), EMPTY), (5, EMPTY, (4, 5)), (6, (8,), EMPTY)]))
        self.assertEqual(turned_back(Patch(3)), Patch(3))
        self.assertEqual(turned_back(patch=Patch(1, [(0, (3,), (3,))])), Patch(1, [(0, (3,), (3,))]))

    def test_by_chance(self):
        chance = random.Random(4)
        for _ in range(300):
            patch = chance_patch(chance, chance.randrange(6))
            back = turned_back(patch)
            self.assertEqual(turned_back(back), patch)
            self.assertEqual(back.length, behind(patch))
            for row in rows_of(patch.length):
                there = made(fitted, patch, row)
                if there is not None:
                    self.assertEqual(fitted(back, there), row)


class Chained(Case):
    def chains(self, one, other, *spots):
        patch = chained(Patch(*one), Patch(*other))
        self.assertEqual((patch.length, patch.spots), (one[0], spots))

    def test_apart(self):
        self.chains((6, [(1, (2,), (9,))]), (6, [(3, (4,), (8,))]), (1, (2,), (9,)), (3, (4,), (8,)))
        self.chains((6, [(3, (4,), (8,))]), (6, [(1, (2,), (9,))]), (1, (2,), (9,)), (3, (4,), (8,)))
        # Of places behind other bytes put in, or left out.
        self.chains((6, [(1, EMPTY, (9, 9))]), (8, [(5, (4,), (8,))]), (1, EMPTY, (9, 9)), (3, (4,), (8,)))
        self.chains((6, [(0, (1, 1), EMPTY)]), (4, [(1, (4,), (8,))]), (0, (1, 1), EMPTY), (3, (4,), (8,)))
        self.chains((6, []), (6, [(1, (4,), (8,))]), (1, (4,), (8,)))
        self.chains((6, [(1, (4,), (8,))]), (6, []), (1, (4,), (8,)))
        self.chains((0, []), (0, []))

    def test_touching(self):
        self.chains((6, [(1, (2,), (9,))]), (6, [(2, (4,), (8,))]), (1, (2, 4), (9, 8)))
        self.chains((6, [(2, (4,), (8,))]), (6, [(1, (2,), (9,))]), (1, (2, 4), (9, 8)))
        self.chains((6, [(1, (2,), EMPTY)]), (5, [(1, (4,), (8,))]), (1, (2, 4), (8,)))
        self.chains((6, [(1, (2,), EMPTY)]), (5, [(0, (4,), (8,))]), (0, (4, 2), (8,)))
        self.chains((6, [(1, (2,), EMPTY)]), (5, [(1, EMPTY, (8,))]), (1, (2,), (8,)))
        self.chains((6, [(1, EMPTY, (9,))]), (7, [(2, EMPTY, (8,))]), (1, EMPTY, (9, 8)))
        self.chains((6, [(1, EMPTY, (9,))]), (7, [(1, EMPTY, (8,))]), (1, EMPTY, (8, 9)))
        # One that lies between two of the other.
        self.chains((6, [(0, (1,), (9,)), (2, (3,), (7,))]), (6, [(1, (2,), (8,))]), (0, (1, 2, 3), (9, 8, 7)))
        self.chains((6, [(1, (2,), (8,))]), (6, [(0, (1,), (9,)), (2, (3,), (7,))]), (0, (1, 2, 3), (9, 8, 7)))

    def test_overlapping_holding_within(self):
        self.chains((6, [(1, (2, 3), (9, 9))]), (6, [(2, (9, 4), (8,))]), (1, (2, 3, 4), (9, 8)))
        self.chains((6, [(2, (3,), (9, 9))]), (7, [(1, (2, 9), (8,))]), (1, (2, 3), (8, 9)))
        self.chains((6, [(2, (3,), (9,))]), (6, [(1, (2, 9, 4), (8,))]), (1, (2, 3, 4), (8,)))
        self.chains((6, [(2, (3,), (9, 8, 7))]), (8, [(3, (8,), (5, 5))]), (2, (3,), (9, 5, 5, 7)))
        self.chains((6, [(2, (3,), (9, 8, 7))]), (8, [(3, EMPTY, (5,))]), (2, (3,), (9, 5, 8, 7)))
        self.chains((6, [(2, (3, 4), EMPTY)]), (4, [(1, (2, 5), (6,))]), (1, (2, 3, 4, 5), (6,)))
        self.chains((9, [(1, EMPTY, (7,)), (3, (4,), EMPTY)]), (9, [(0, (1, 7, 2, 3, 5), (9,))]), (0, (1, 2, 3, 4, 5), (9,)))

    def test_put_in_and_taken_out_again(self):
        self.chains((6, [(2, EMPTY, (9, 8))]), (8, [(2, (9, 8), EMPTY)]))
        self.chains((6, [(2, EMPTY, (9, 8))]), (8, [(2, (9,), EMPTY)]), (2, EMPTY, (8,)))
        self.chains((6, [(2, EMPTY, (9, 8))]), (8, [(2, (9, 8), EMPTY), (5, (1,), (2,))]), (3, (1,), (2,)))
        # Taken out and put in again: alike bytes are looked at.
        self.chains((6, [(2, (9,), EMPTY)]), (5, [(2, EMPTY, (9,))]), (2, (9,), (9,)))
        self.chains((6, [(2, (9,), (8,))]), (6, [(2, (8,), (9,))]), (2, (9,), (9,)))

    def test_bytes_put_in_as_they_were(self):
        self.chains((6, [(2, (9,), (9,))]), (6, [(2, (9,), (8,))]), (2, (9,), (8,)))
        self.chains((6, [(2, (9,), (9,))]), (6, []), (2, (9,), (9,)))
        self.misfit(2, chained, Patch(6, [(2, (9,), (9,))]), Patch(6, [(2, (8,), (8,))]))

    def test_no_such_row_between(self):
        one = Patch(6, [(0, (1,), (7, 8)), (3, (4,), (9,))])
        for at, spots in ((0, [(0, (6,), ())]), (1, [(0, (7, 9), ())]), (1, [(1, (7,), ())]), (4, [(3, (9, 8), ())]),
                          (1, [(1, (7,), ()), (4, (8,), ())])):
            self.misfit(at, chained, one, Patch(7, spots))
            # A byte goes ahead of the length behind it.
            self.misfit(at, chained, one, Patch(9, spots))
        # Other bytes than those put in are any.
        self.assertEqual(chained(one, Patch(7, [(2, (5, 5), ())])).spots, ((0, (1, 5, 5, 4), (7, 8, 9)),))
        self.assertEqual(chained(one, Patch(7, [(6, (5,), ())])).spots, ((0, (1,), (7, 8)), (3, (4,), (9,)), (5, (5,), ())))

    def test_lengths_unlike(self):
        one = Patch(6, [(0, (1,), (7, 8)), (3, (4,), (9,))])
        for length in (0, 1, 4, 6, 8, 100):
            self.misfit(min(length, 7), chained, one, Patch(length))
        self.misfit(7, chained, one, Patch(9, [(7, (3,), (4,))]))
        self.misfit(4, chained, one, Patch(4, [(0, (7,), (4,))]))
        self.misfit(0, chained, one, Patch(4, [(0, (6,), (4,))]))
        self.assertEqual(chained(other=Patch(7), one=one), one)

    def test_by_chance(self):
        chance = random.Random(5)
        some = 0
        for _ in range(1500):
            one = chance_patch(chance, chance.randrange(6))
            other = chance_patch(chance, behind(one) if chance.random() < 0.9 else chance.randrange(6))
            both = made(chained, one, other)
            for row in rows_of(one.length):
                between = made(fitted, one, row)
                end = None if between is None else made(fitted, other, between)
                self.assertEqual(end, None if both is None else made(fitted, both, row))
            if both is None:
                continue
            some += 1
            touched = [place for at, old, _ in one.spots for place in range(at, at + len(old))]
            self.assertLessEqual(set(touched), {place for at, old, _ in both.spots for place in range(at, at + len(old))})
            # Three in either brackets.
            third = chance_patch(chance, behind(other))
            rest = made(chained, other, third)
            self.assertEqual(made(chained, both, third), None if rest is None else made(chained, one, rest))
        self.assertGreater(some, 500)


class Merged(Case):
    def merges(self, length, one, other, *spots):
        for first, second in ((one, other), (other, one)):
            patch = merged(Patch(length, first), Patch(length, second))
            self.assertEqual((patch.length, patch.spots), (length, spots))

    def test_apart_and_alike(self):
        self.merges(6, [(1, (2,), (9,))], [(3, (4,), (8,))], (1, (2,), (9,)), (3, (4,), (8,)))
        self.merges(6, [(1, (2,), (9,)), (5, EMPTY, (1,))], [(3, (4,), (8,)), (5, EMPTY, (1,))],
                    (1, (2,), (9,)), (3, (4,), (8,)), (5, EMPTY, (1,)))
        self.merges(6, [(1, (2,), (9,))], [(1, (2,), (9,))], (1, (2,), (9,)))
        self.merges(6, [(1, (2,), (9,))], [], (1, (2,), (9,)))
        self.merges(6, [], [])

    def test_touching(self):
        self.merges(6, [(1, (2,), (9,))], [(2, (4,), (8,))], (1, (2, 4), (9, 8)))
        self.merges(6, [(1, (2,), EMPTY), (3, (5,), (5, 5))], [(2, (4,), (8,))], (1, (2, 4, 5), (8, 5, 5)))
        # Put in at the begin, at the end.
        self.merges(6, [(1, (2, 3), (9,))], [(1, EMPTY, (8,))], (1, (2, 3), (8, 9)))
        self.merges(6, [(1, (2, 3), (9,))], [(3, EMPTY, (8,))], (1, (2, 3), (9, 8)))
        self.merges(6, [(1, (2, 3), (9,))], [(1, EMPTY, (8,)), (3, EMPTY, (7,))], (1, (2, 3), (8, 9, 7)))
        self.merges(6, [(0, (1,), (1,)), (2, EMPTY, (6,))], [(1, (2,), (3,))], (0, (1, 2), (1, 3, 6)))

    def test_clashes(self):
        for one, other, at in (
                ((1, (2,), (9,)), (1, (2,), (8,)), 1), ((1, (2,), (9,)), (1, (3,), (9,)), 1), ((1, (2, 3), (9,)), (2, (3,), (9,)), 2),
                ((1, (2, 3), (9,)), (0, (1, 2), (9,)), 1), ((1, (2, 3, 4), (9,)), (2, (3,), (3,)), 2),
                ((1, (2, 3), (9,)), (1, (2,), (9,)), 1), ((1, (2, 3), (9,)), (2, EMPTY, (8,)), 2),
                ((1, (2, 3, 4), EMPTY), (3, EMPTY, (8,)), 3), ((1, EMPTY, (9,)), (1, EMPTY, (8,)), 1),
                ((1, EMPTY, (9,)), (1, EMPTY, (9, 9)), 1), ((6, EMPTY, (9,)), (6, EMPTY, (8,)), 6)):
            self.clash(at, Patch(6, [one]), Patch(6, [other]))

    def test_the_first_clash(self):
        self.clash(3, Patch(20, [(1, (0,) * 9, ())]), Patch(20, [(3, (0,), (1,)), (5, (0,), (1,))]))
        self.clash(4, Patch(20, [(2, (0,) * 3, ()), (8, (0,), ())]), Patch(20, [(4, (0,) * 5, ())]))
        self.clash(5, Patch(20, [(1, (0,), (1,)), (3, (0,) * 3, ())]), Patch(20, [(1, (0,), (1,)), (5, (0,) * 5, ())]))
        # What touches is no clash, what is alike neither.
        self.clash(9, Patch(20, [(1, (0,), (1,)), (4, (0,), (1,)), (9, (), (3,))]),
                   Patch(20, [(2, (0,), (1,)), (4, (0,), (1,)), (9, (), (4,))]))

    def test_lengths_unlike_ahead_of_clashes(self):
        one, other = Patch(6, [(1, (2,), (9,))]), Patch(8, [(1, (2,), (8,))])
        for function in (merged, shifted):
            self.misfit(6, function, one, other)
            self.misfit(6, function, other, one)
            self.misfit(0, function, Patch(0), Patch(3))


class Shifted(Case):
    def shifts(self, length, spots, over, *told):
        over = Patch(length, over)
        patch = shifted(Patch(length, spots), over)
        self.assertEqual((patch.length, patch.spots), (behind(over), told))

    def test_places(self):
        self.shifts(9, [(3, (4,), (8,))], [(1, (2,), (9, 9, 9))], (5, (4,), (8,)))
        self.shifts(9, [(3, (4,), (8,))], [(0, (2, 2), EMPTY)], (1, (4,), (8,)))
        self.shifts(9, [(3, (4,), (8,))], [(5, (2,), (9, 9, 9))], (3, (4,), (8,)))
        self.shifts(9, [(1, (4,), (8,)), (5, EMPTY, (1,))], [(3, EMPTY, (9, 9)), (7, (7,), EMPTY)], (1, (4,), (8,)), (7, EMPTY, (1,)))
        self.shifts(9, [], [(1, (2,), (9, 9))])
        self.shifts(9, [(3, (4,), (8,))], [], (3, (4,), (8,)))
        self.assertEqual(shifted(over=Patch(2, [(0, (), (1,))]), patch=Patch(2)), Patch(3))

    def test_touching_places(self):
        self.shifts(9, [(3, (4,), (8,))], [(3, EMPTY, (9, 9))], (5, (4,), (8,)))
        self.shifts(9, [(3, (4,), (8,))], [(4, EMPTY, (9, 9))], (3, (4,), (8,)))
        self.shifts(9, [(3, EMPTY, (8,))], [(3, (5,), (9, 9))], (3, EMPTY, (8,)))
        self.shifts(9, [(4, EMPTY, (8,))], [(3, (5,), (9, 9))], (5, EMPTY, (8,)))
        self.shifts(9, [(3, (4,), (8,))], [(1, (5, 5), EMPTY)], (1, (4,), (8,)))

    def test_alike_ones_left_out(self):
        same = (1, (2,), (9, 9))
        self.shifts(9, [same], [same])
        self.shifts(9, [same, (4, (5,), (6,))], [same], (5, (5,), (6,)))
        self.shifts(9, [(4, (5,), (6,))], [same], (5, (5,), (6,)))

    def test_touching_ones_put_into_one(self):
        self.shifts(9, [(1, (2,), (9,)), (3, (4,), (8,))], [(2, (3,), EMPTY)], (1, (2, 4), (9, 8)))
        self.shifts(9, [(1, EMPTY, (9,)), (2, EMPTY, (8,))], [(1, (3,), EMPTY)], (1, EMPTY, (9, 8)))
        self.shifts(9, [(1, (2,), (9,)), (3, (4,), (8,))], [(2, (3,), (7,))], (1, (2,), (9,)), (3, (4,), (8,)))

    def test_by_chance(self):
        chance = random.Random(6)
        some = 0
        for _ in range(1500):
            length = chance.randrange(7)
            one, other = chance_patch(chance, length), chance_patch(chance, length)
            try:
                both = merged(one, other)
            except Clash as refusal:
                self.clash(refusal.at, one, other)
                continue
            some += 1
            self.assertEqual(merged(other, one), both)
            there, back = shifted(other, one), shifted(one, other)
            self.assertEqual(chained(one, there), both)
            self.assertEqual(chained(other, back), both)
            for row in rows_of(length):
                mine, yours = made(fitted, one, row), made(fitted, other, row)
                whole = None if mine is None or yours is None else fitted(there, mine)
                self.assertEqual(made(fitted, both, row), whole)
                if whole is not None:
                    self.assertEqual(fitted(back, yours), whole)
        self.assertGreater(some, 500)


if __name__ == "__main__":
    unittest.main()
