"""[35], [36], [37]: shelves as bytes, and what is taken from them."""

import unittest

from byteround.bytesrows import long_of
from byteround.errors import NoBytes, Twice
from byteround.shelves import is_taken, laid, read_shelf, shelf_bytes, taken
from byteround.things import Part, Stretch, Unit
from byteround.unitbytes import least_edition, unit_bytes
from tests.anything import Number, Row, Rows, Text, anything, is_exact
from tests.chance import chance_units
from tests.test_names import part


def spelled(name):
    return (len(name), *[ord(letter) for letter in name])


def summed(row):
    return row + divmod(sum(row) % 65536, 256)


def unit(*parts):
    return Unit(parts)


def teller(*names, held=(), soft=(), weak=()):
    """A unit of one part that has the names told."""
    return unit(part(labels=tuple(sorted(names + weak)), told=tuple(sorted(names)), held=held, soft=soft, weak=weak))


def sized(rows, told):
    """The bytes of a shelf of such units' rows and told names, whether they are due or not."""
    units = [byte for row in rows for byte in long_of(len(row)) + row]
    names = [byte for name, number in told for byte in (*spelled(name), *long_of(number))]
    return summed((87, *long_of(len(rows)), *units, *long_of(len(told)), *names))


class Bytes(unittest.TestCase):
    def test_no_unit(self):
        self.assertEqual(shelf_bytes([]), (87, 0, 0, 0, 87))
        self.assertEqual(read_shelf((87, 0, 0, 0, 87)), [])
        self.assertEqual(shelf_bytes(()), (87, 0, 0, 0, 87))

    def test_one(self):
        one = unit(Part("a", told=("x",), stretches=[Stretch("m", kind="data", data=(5,), labels=(("x", 0),))]))
        row = (85, 1, 1, 97, 1, 1, 109, 1, 1, 5, 0, 1, 1, 120, 0, 1, 1, 120)
        self.assertEqual(unit_bytes(one), row)
        self.assertEqual(shelf_bytes([one]), summed((87, 1, 18, *row, 1, 1, 120, 0)))
        self.assertEqual(read_shelf(shelf_bytes([one])), [one])

    def test_several(self):
        units = [teller("x", "b"), unit(Part("a"), Part("b")), teller("abcdefgh", "b"), teller("x"), unit(Part("a"))]
        told = [("abcdefgh", 2), ("b", 0), ("b", 2), ("x", 0), ("x", 3)]
        self.assertEqual(shelf_bytes(units), sized([unit_bytes(one) for one in units], told))
        self.assertEqual(read_shelf(shelf_bytes(units)), units)
        self.assertEqual([least_edition(one) for one in units], [1, 3, 2, 1, 1])

    def test_a_name_that_two_parts_of_a_unit_have_told_stands_once(self):
        twice = unit(part(labels=("x",), told=("x",)), part(labels=("x", "y"), told=("x", "y")))
        self.assertEqual(shelf_bytes([twice]), sized([unit_bytes(twice)], [("x", 0), ("y", 0)]))
        self.assertEqual(read_shelf(shelf_bytes([twice])), [twice])

    def test_long_numbers(self):
        long = unit(Part("a", stretches=[Stretch("m", kind="data", data=(7,) * 200)]))
        row = unit_bytes(long)
        self.assertEqual(shelf_bytes([long])[:4], (87, 1, *long_of(len(row))))
        many = [teller("x")] * 130
        self.assertEqual(shelf_bytes(many)[1:3], (129, 2))
        self.assertEqual(shelf_bytes(many)[-10:-2], (1, 120, 129, 0, 1, 120, 129, 1))
        self.assertEqual(read_shelf(shelf_bytes(many)), many)

    def test_whatever_units(self):
        for seed in range(5, 12):
            units = chance_units(seed, 6)
            self.assertEqual(read_shelf(shelf_bytes(units)), units)

    def test_what_is_told_may_be_changed(self):
        row = shelf_bytes([teller("x")])
        read_shelf(row).clear()
        self.assertEqual(read_shelf(row), [teller("x")])
        self.assertIs(type(read_shelf(Row(Number(byte) for byte in row))), list)


class NoShelves(unittest.TestCase):
    units = (teller("x", "b"), unit(Part("a"), Part("b")), teller("b"))
    rows = [unit_bytes(one) for one in units]
    told = [("b", 0), ("b", 2), ("x", 0)]

    def refused(self, at, row):
        with self.assertRaises(NoBytes, msg=row) as caught:
            read_shelf(row)
        self.assertEqual(caught.exception.at, at, row)

    def test_of_anything(self):
        for thing in anything():
            self.refused(0, thing)
        self.refused(0, list(shelf_bytes(self.units)))
        self.refused(0, ())
        for first in (85, 86, 88, 0):
            self.refused(0, (first,) + shelf_bytes(self.units)[1:])

    def test_cut(self):
        row = shelf_bytes(self.units)
        for many in range(len(row)):
            self.refused(many, row[:many])

    def test_a_byte_behind_all_and_the_sum(self):
        row = shelf_bytes(self.units)
        self.refused(len(row), row + (0,))
        for other in (row[:-1] + ((row[-1] + 1) % 256,), row[:-2] + ((row[-2] + 1) % 256, row[-1])):
            self.refused(len(row) - 2, other)

    def test_each_byte_changed(self):
        row = shelf_bytes(self.units)
        for at in range(len(row)):
            for byte in {0, 1, 2, 97, 128, 255, (row[at] + 1) % 256, (row[at] - 1) % 256} - {row[at]}:
                for other in (row[:at] + (byte,) + row[at + 1:], summed(row[:at] + (byte,) + row[at + 1:-2])):
                    try:
                        units = read_shelf(other)
                    except NoBytes as refusal:
                        self.assertTrue(0 <= refusal.at <= len(other))
                        continue
                    self.assertEqual(shelf_bytes(units), other)

    def begin(self, number):
        """Where the bytes of the unit of this number begin."""
        return 2 + sum(len(long_of(len(row))) + len(row) for row in self.rows[:number]) + len(long_of(len(self.rows[number])))

    def test_a_units_bytes_that_are_none(self):
        for number in range(3):
            begin = self.begin(number)
            row = self.rows[number]
            strange = [(84,) + row[1:], (85, 9) + row[2:], row + (0,), row[:-1], row[:5], row[:2], ()]
            for other in strange:
                told = sized(self.rows[:number] + [other] + self.rows[number + 1:], self.told)
                at = {(84,) + row[1:]: 0, (85, 9) + row[2:]: 1}.get(other, len(row) if len(other) > len(row) else len(other))
                again = 2 + sum(len(long_of(len(one))) + len(one) for one in self.rows[:number]) + len(long_of(len(other)))
                self.refused(again + at, told)
            self.assertEqual(shelf_bytes(self.units)[begin:begin + len(row)], row)

    def test_a_part_that_is_none(self):
        row = self.rows[0]
        other = row[:-1] + (row[-1] + 1,)
        self.refused(self.begin(0) + 2, sized([other] + self.rows[1:], self.told))

    def test_another_edition_than_its_least(self):
        for number, edition in ((0, 2), (0, 3), (2, 2), (2, 3)):
            other = unit_bytes(self.units[number], edition=edition)
            begin = 2 + sum(len(long_of(len(one))) + len(one) for one in self.rows[:number]) + len(long_of(len(other)))
            self.refused(begin, sized(self.rows[:number] + [other] + self.rows[number + 1:], self.told))

    def test_a_row_that_ends_within_a_units_bytes(self):
        bad = (84,) + self.rows[0][1:]
        row = sized([bad], [])
        for many in range(4, 3 + len(bad)):
            self.refused(many, row[:many])
        self.refused(3, row[:3 + len(bad)])
        # Another edition, and cut.
        other = sized([unit_bytes(self.units[2], edition=2)], self.told)
        self.refused(len(other) - 30, other[:-30])

    def test_told_names(self):
        begin = len(shelf_bytes(self.units)) - 2 - 9 - 1
        self.assertEqual(shelf_bytes(self.units)[begin:-2], (3, 1, 98, 0, 1, 98, 2, 1, 120, 0))
        for told in ([], self.told[:2], self.told + [("z", 0)], self.told[:1]):
            self.refused(begin, sized(self.rows, told))
        for at, told in ((1, [("a", 0)] + self.told[1:]), (4, [("b", 0), ("c", 2), ("x", 0)]),
                         (4, [("b", 0), ("x", 0), ("b", 2)]), (7, [("b", 0), ("b", 2), ("b", 2)]),
                         (3, [("b", 1)] + self.told[1:]), (3, [("b", 2), ("b", 0), ("x", 0)]),
                         (6, [("b", 0), ("b", 0), ("x", 0)]), (9, [("b", 0), ("b", 2), ("x", 2)]),
                         (1, [("abcdefghi", 0)] + self.told[1:]), (4, [("b", 0), ("", 2), ("x", 0)]),
                         (7, [("b", 0), ("b", 2), ("xx", 0)]), (3, [("b", 200), ("b", 2), ("x", 0)])):
            self.refused(begin + at, sized(self.rows, told))
        row = shelf_bytes(self.units)
        # A number that begins with 128, in each place.
        self.refused(1, row[:1] + (128,) + row[1:])
        self.refused(2, row[:2] + (128,) + row[2:])
        self.refused(begin, row[:begin] + (128,) + row[begin:])
        self.refused(begin + 3, row[:begin + 3] + (128,) + row[begin + 3:])
        # A name as long as the row has no more of it.
        self.refused(begin + 4, row[:begin + 1] + (9, 97, 97))
        self.refused(len(row), row[:begin + 1] + (250,) + row[begin + 2:])


class Takings(unittest.TestCase):
    def takes(self, expected, units, entry, shelves, keep=()):
        told = taken(units, entry, shelves=shelves, keep=keep)
        self.assertEqual(told, expected)
        self.assertTrue(is_exact(told))
        self.assertIs(is_taken(units, entry, expected, shelves=shelves, keep=keep), True)
        whole = [part for one in units for part in one.parts]
        for shelf, number, _, _ in expected:
            whole.extend(shelves[shelf][number].parts)
        if whole:
            self.assertEqual(laid(units, entry, shelves=shelves, keep=keep), Unit(whole))

    def test_nothing_wanted(self):
        one = teller("main", held=("main",))
        self.takes([], [one], "main", [])
        self.takes([], [one], "main", [[], []])
        self.takes([], [one], "main", [[teller("x")], [teller("y")]])
        self.assertEqual(laid([one], "main"), one)

    def test_holds(self):
        self.takes([(0, 0, "x", 0)], [teller("main", held=("x",))], "main", [[teller("x")]])
        self.takes([(1, 1, "x", 0)], [teller("main", held=("x",))], "main", [[teller("y")], [teller("z"), teller("x")]])

    def test_the_entry(self):
        self.takes([(0, 1, "main", None)], [teller("x")], "main", [[teller("y"), teller("main")]])
        self.takes([(0, 0, "main", None)], [teller("x", held=("main",))], "main", [[teller("main")]])
        # A weak one means something.
        self.takes([], [unit(part(labels=("main",), weak=("main",)))], "main", [[teller("main")]])
        # A label that is neither doesn't.
        self.takes([(0, 0, "main", None)], [unit(part(labels=("main",), held=("main",)))], "main", [[teller("main")]])

    def test_names_to_be_kept(self):
        shelf = [teller("a"), teller("b"), teller("c")]
        self.takes([(0, 0, "a", None), (0, 2, "c", None)], [teller("main")], "main", [shelf], keep=("c", "a", "c", "main"))
        self.takes([(0, 1, "b", None)], [teller("main")], "main", [shelf], keep=["b"])

    def test_the_order_of_wants(self):
        one = unit(part(labels=("k",), told=("k",), held=("d", "c")), part(held=("b", "a", "c")))
        shelf = [teller(name) for name in ("a", "b", "c", "d", "main", "x", "y")]
        self.takes(
            [(0, 4, "main", None), (0, 5, "x", None), (0, 6, "y", None), (0, 3, "d", 0), (0, 2, "c", 0), (0, 1, "b", 1),
             (0, 0, "a", 1)], [one], "main", [shelf], keep=("y", "x"))

    def test_soft_ones_want_nothing(self):
        shelf = [teller("x")]
        self.takes([], [teller("main", held=("x",), soft=("x",))], "main", [shelf])
        # Another part that hasn't it soft does.
        soft = part(labels=("main",), told=("main",), held=("x",), soft=("x",))
        self.takes([(0, 0, "x", 1)], [unit(soft, part(held=("x",)))], "main", [shelf])
        self.takes([(0, 0, "x", 1)], [unit(soft), unit(part(held=("x",)))], "main", [shelf])

    def test_what_means_something_wants_nothing(self):
        shelf = [teller("x")]
        for labels, told, weak in ((("x",), (), ()), (("x",), (), ("x",))):
            one = part(labels=("main",) + labels, told=("main",) + told, weak=weak, held=("x",))
            self.takes([], [unit(one)], "main", [shelf])
        one = part(labels=("main",), told=("main",), held=("x",))
        self.takes([], [unit(one), unit(part(labels=("x",), weak=("x",)))], "main", [shelf])
        self.takes([(0, 0, "x", 0)], [unit(one), unit(part(labels=("x",)))], "main", [shelf])

    def test_weak_ones_on_shelves_are_not_offered(self):
        weak = unit(part(labels=("x",), weak=("x",)))
        plain = unit(part(labels=("x",)))
        self.takes([(0, 2, "x", 0)], [teller("main", held=("x",))], "main", [[weak, plain, teller("x")]])
        self.takes([], [teller("main", held=("x",))], "main", [[weak, plain]])

    def test_a_weak_one_of_a_taken_unit_means_something(self):
        giver = teller("x", weak=("y",))
        self.takes([(0, 0, "x", 0)], [teller("main", held=("x", "y"))], "main", [[giver, teller("y")]])

    def test_taken_ones_want_in_turn(self):
        shelf = [teller("z"), teller("y", held=("z",)), teller("x", held=("y",))]
        self.takes(
            [(0, 2, "x", 0), (0, 1, "y", 1), (0, 0, "z", 2)], [teller("main", held=("x",))], "main", [shelf])
        # The first part that wants it goes ahead.
        self.takes(
            [(0, 2, "x", 0), (0, 0, "z", 0), (0, 1, "y", 1)], [teller("main", held=("x", "z"))], "main", [shelf])

    def test_a_unit_of_several_parts(self):
        giver = unit(part(labels=("x",), told=("x",), held=("q",), soft=("q",)), part(held=("y",)))
        self.takes([(0, 0, "x", 0), (1, 0, "y", 2)], [teller("main", held=("x",))], "main", [[giver], [teller("y")]])

    def test_a_unit_that_is_taken_for_two_names(self):
        self.takes([(0, 0, "x", 0)], [teller("main", held=("x", "y"))], "main", [[teller("x", "y")]])
        self.takes([(0, 0, "x", 0)], [teller("main", held=("x", "y"))], "main", [[teller("x", "y"), teller("y")]])

    def test_a_name_told_by_two_units_on_shelves(self):
        self.takes([(0, 0, "x", 0)], [teller("main", held=("x",))], "main", [[teller("x"), teller("x")], [teller("x")]])
        self.takes([(1, 1, "x", 0)], [teller("main", held=("x",))], "main", [[], [teller("w"), teller("x")], [teller("x")]])

    def test_nothing_handed_in(self):
        self.takes([(0, 0, "main", None)], [], "main", [[teller("main")]])
        self.takes([], [], "main", [[teller("x")]])

    def test_lists_and_tuples(self):
        one = teller("main", held=("x",))
        for units in ([one], (one,), Rows([one])):
            for shelves in ([[teller("x")]], ([teller("x")],), [(teller("x"),)]):
                self.takes([(0, 0, "x", 0)], units, "main", shelves, keep=["x"] * 0)
        shelf, units, keep = [teller("x")], [one], ["main"]
        taken(units, "main", shelves=[shelf], keep=keep)
        laid(units, "main", shelves=[shelf], keep=keep)
        self.assertEqual((units, shelf, keep), ([one], [teller("x")], ["main"]))

    def test_names_of_another_class(self):
        told = taken([teller("y")], Text("x"), shelves=[[teller("x"), teller("z")]], keep=[Text("z")])
        self.assertEqual(told, [(0, 0, "x", None), (0, 1, "z", None)])
        self.assertTrue(is_exact(told))

    def test_arguments(self):
        with self.assertRaises(TypeError):
            taken([teller("main")], "main")
        with self.assertRaises(TypeError):
            taken([teller("main")], "main", [[]])


class ToldTwice(unittest.TestCase):
    def twice(self, expected, units, entry, shelves, keep=()):
        for ask in (taken, laid):
            with self.assertRaises(Twice) as caught:
                ask(units, entry, shelves=shelves, keep=keep)
            self.assertEqual(caught.exception, Twice(*expected))
        for thing in ([], [(0, 0, "x", 0)], None):
            self.assertIs(is_taken(units, entry, thing, shelves=shelves, keep=keep), False)

    def test_of_the_units_handed_in(self):
        self.twice(("main", 0, 1), [teller("main"), teller("main")], "main", [])
        self.twice(("x", 1, 2), [teller("main"), unit(part(labels=("x",), told=("x",)), part(labels=("x",), told=("x",)))],
                   "main", [[teller("y")]])
        # Ahead of the taking: what is taken would tell an earlier name twice.
        self.twice(("x", 0, 1), [teller("x"), teller("x", held=("y",))], "main", [[teller("y", "b"), teller("main", "b")]])

    def test_of_all_parts_behind_the_taking(self):
        self.twice(("main", 0, 1), [teller("main", held=("x",))], "main", [[teller("x", "main")]])
        self.twice(("q", 1, 2), [teller("main", held=("x", "y"))], "main", [[teller("x", "q"), teller("y", "q")]])
        self.twice(("x", 1, 2), [teller("main", held=("x",))], "main",
                   [[unit(part(labels=("x",), told=("x",)), part(labels=("x",), told=("x",)))]])

    def test_the_taking_goes_on_ahead_of_it(self):
        # b is told twice by what is taken later, so it goes ahead of q.
        units = [teller("main", "b", held=("x", "y", "z"))]
        self.twice(("b", 0, 3), units, "main", [[teller("x", "q"), teller("y", "q"), teller("z", "b")]])

    def test_units_that_are_not_taken(self):
        self.assertEqual(taken([teller("main")], "main", shelves=[[teller("main"), teller("main")]]), [])


class IsTaken(unittest.TestCase):
    units = [teller("main", held=("x", "y"))]
    shelves = [[teller("w"), teller("y")], [teller("x")]]
    due = [(1, 0, "x", 0), (0, 1, "y", 0)]

    def looks(self, thing):
        return is_taken(self.units, "main", thing, shelves=self.shelves, keep=())

    def test_just_this_list(self):
        self.assertIs(self.looks(self.due), True)
        self.assertIs(self.looks(Rows(Row(row) for row in self.due)), True)
        for k in range(2):
            for n in range(4):
                for other in (None, True, False, 0, 1, 2, "x", "y", "z", (), -1):
                    row = self.due[k][:n] + (other,) + self.due[k][n + 1:]
                    if row != self.due[k] or type(other) is bool:
                        self.assertIs(self.looks(self.due[:k] + [row] + self.due[k + 1:]), False, row)
        for thing in (tuple(self.due), self.due[::-1], self.due[:1], self.due + self.due[:1], [list(row) for row in self.due],
                      [row[:3] for row in self.due], [row + (0,) for row in self.due], [], None):
            self.assertIs(self.looks(thing), False, thing)

    def test_of_anything(self):
        for thing in anything():
            self.assertIs(self.looks(thing), False)
            told = is_taken([teller("main")], "main", thing, shelves=[])
            self.assertIs(told, type(thing) is list and thing == [])


if __name__ == "__main__":
    unittest.main()
