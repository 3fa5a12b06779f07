"""[22], [24]: units of texts, short and long words round by round, what each row makes."""

import random
import unittest

from byteround.assembling import assemble, made_by, rounds, shows_rounds
from byteround.things import Part, Stretch, Unit
from byteround.words import show_word, words_of
from tests.anything import Row, Rows, Text, anything, is_exact


def text_of(*rows):
    return "\n".join(rows)


def lone(stretch, **more):
    return Unit([Part("a", stretches=[stretch], **more)])


class Case(unittest.TestCase):
    def made(self, text, *parts):
        self.assertEqual(assemble(text), Unit(parts), text)

    def code(self, *rows, head="code m 1"):
        """The only stretch of a text of one part with these rows in code."""
        return assemble(text_of("part a", head, *rows)).parts[0].stretches[0]


class Units(Case):
    def test_a_whole_text(self):
        text = text_of(
            "note of all", "part lone", "told main", "weak box", "soft far", "code main 2", "main:", "set a 255", "loop:",
            "call far", "if a loop", "row 70", "point p box+3", "halt", "data d 8", "bytes 1 2 3", "box:", "two 258 3",
            "held main+9", "row 0", "zeros 2", "note", "row 9", "held far", "room r 16", "leave 5", "more:", "leave 7",
            "part empty")
        main = Stretch(
            "main", kind="code", step=2, data=(0x14, 255, 0x63, 0, 0, 0x64, 0, 0x70, 0, 0, 0x00),
            labels=(("main", 0), ("loop", 2)),
            holds=((3, "full", "far", 0), (6, "near", "loop", 0), (8, "full", "box", 3)),
            lines=((0, 8), (2, 10), (5, 11), (7, 70)))
        box = Stretch(
            "d", kind="data", step=8, data=(1, 2, 3, 1, 2, 0, 3, 0, 0, 0, 0, 0, 0), labels=(("box", 3),),
            holds=((7, "full", "main", 9), (11, "full", "far", 0)), lines=((0, 16), (3, 18), (7, 19), (9, 0), (11, 9)))
        room = Stretch("r", kind="room", step=16, size=12, labels=(("more", 5),), lines=((0, 26), (5, 28)))
        self.made(
            text, Part("lone", stretches=(main, box, room), told=("main",), weak=("box",), soft=("far",)), Part("empty"))

    def test_each_word(self):
        # Each byte that begins a word without a field, and those with one, as they show themselves.
        row = [first for first in range(256) if not 0x14 <= first < 0x1c and not 0x60 <= first < 0x72 and begins(first)]
        row += [0x14, 0, 0x17, 255, 0x18, 0, 0, 0x1a, 0, 255, 0x1b, 255, 255]
        texts = [show_word(word) for _, word in words_of(tuple(row))]
        self.assertEqual(self.code(*texts).data, tuple(row))
        self.assertEqual(len(texts), 142 + 5)

    def test_sets(self):
        for n in range(4):
            letter = "abcd"[n]
            for number in (0, 1, 255):
                self.assertEqual(self.code(f"set {letter} {number}").data, (0x14 + n, number))
                self.assertEqual(self.code(f"set.short {letter} {number}").data, (0x14 + n, number))
                self.assertEqual(self.code(f"set.long {letter} {number}").data, (0x18 + n, 0, number))
            for number in (256, 65535):
                self.assertEqual(self.code(f"set {letter} {number}").data, (0x18 + n, *divmod(number, 256)))

    def test_words_with_a_mark(self):
        for word, short, long in (("go", 0x60, 0x61), ("call", 0x62, 0x63), ("if c", 0x66, 0x6a)):
            name, *letters = word.split(" ")
            for mark, data, hold in ((".short", (short, 0, 0), (1, "near", "x", 0)),
                                     (".long", (long, 0, 0, 0), (1, "full", "x", 0)), ("", (short, 0, 0), (1, "near", "x", 0))):
                made = self.code("x:", " ".join([name + mark, *letters, "x"]), "halt")
                self.assertEqual((made.data, made.holds), (data, (hold,)))
        made = self.code("point q m", "point p m+65535", "halt")
        self.assertEqual(made.data, (0x71, 0, 0, 0x70, 0, 0, 0))
        self.assertEqual(made.holds, ((1, "full", "m", 0), (4, "full", "m", 65535)))

    def test_data(self):
        made = self.code("bytes 0 255 7", "two 0 1 256 65535", "zeros 3", "held x", "held y+1", head="data m 1")
        self.assertEqual(made.data, (0, 255, 7, 0, 0, 0, 1, 1, 0, 255, 255) + (0,) * 7)
        self.assertEqual(made.holds, ((14, "full", "x", 0), (16, "full", "y", 1)))
        self.assertEqual(self.code("zeros 4000", head="data m 1").size, 4000)

    def test_labels_at_one_offset(self):
        made = self.code("z:", "row 5", "a:", "note", "m:", "halt", "b:", "halt")
        self.assertEqual(made.labels, (("a", 0), ("m", 0), ("z", 0), ("b", 1)))

    def test_names_are_told_rising(self):
        made = assemble(text_of(
            "part a", "weak y", "soft z", "told x", "told b", "soft c", "weak d", "code m 1", "x:", "b:", "y:", "d:", "go z",
            "go c", "halt")).parts[0]
        self.assertEqual((made.told, made.weak, made.soft), (("b", "x"), ("d", "y"), ("c", "z")))

    def test_a_text_of_another_class(self):
        made = assemble(Text("part a\ntold x\ndata m 1\nx:\nheld y"))
        part = made.parts[0]
        self.assertTrue(is_exact([
            part.name, part.told, part.stretches[0].name, part.stretches[0].labels, part.stretches[0].holds]))


def begins(first):
    try:
        return words_of((first,)) is not None
    except ValueError:
        return False


class Lines(Case):
    def lines(self, *rows, head="code m 1"):
        return self.code(*rows, head=head).lines

    def test_a_row_leads_to_itself(self):
        self.assertEqual(self.lines("halt", "note", "x:", "set a 5", "halt"), ((0, 3), (1, 6), (3, 7)))
        self.assertEqual(self.lines("zeros 7", "held x", "bytes 1", head="data m 1"), ((0, 3), (7, 4), (9, 5)))
        self.assertEqual(self.lines("leave 7", "leave 2", head="room m 1"), ((0, 3), (7, 4)))

    def test_what_a_row_tells(self):
        self.assertEqual(self.lines("row 9", "halt", "halt"), ((0, 9),))
        self.assertEqual(self.lines("halt", "row 9", "halt", "halt", "row 0", "halt"), ((0, 3), (1, 9), (3, 0)))
        self.assertEqual(self.lines("row 9", "halt", "row 9", "halt"), ((0, 9),))
        self.assertEqual(self.lines("row 8", "row 9", "halt"), ((0, 9),))
        self.assertEqual(self.lines("halt", "row 3", "halt", "row 60000", "halt", "row 5"), ((0, 3), (2, 60000)))
        self.assertEqual(self.lines("row 0", "halt"), ((0, 0),))

    def test_up_to_the_end_of_its_stretch(self):
        unit = assemble("part a\ncode m 1\nrow 9\nhalt\ncode n 1\nhalt\nrow 8\npart b\ncode m 1\nhalt")
        told = [stretch.lines for part in unit.parts for stretch in part.stretches]
        self.assertEqual(told, [((0, 9),), ((0, 6),), ((0, 10),)])

    def test_where_labels_stand_behind_a_row(self):
        made = self.code("halt", "row 9", "x:", "halt")
        self.assertEqual((made.labels, made.lines), ((("x", 1),), ((0, 3), (1, 9))))


class Rounds(Case):
    def test_just_as_far_as_a_short_one_reaches(self):
        for word, many in (("go", 2), ("call", 2), ("if b", 2)):
            on = lambda far: text_of("part a", "code m 1", f"{word} x", *["halt"] * far, "x:", "halt")
            self.assertEqual(rounds(on(0)), [])
            self.assertEqual(rounds(on(127)), [])
            self.assertEqual(rounds(on(128)), [(3,)])
            self.assertEqual(assemble(on(127)).parts[0].stretches[0].data[1], 0)
            back = lambda far: text_of("part a", "code m 1", "x:", *["halt"] * far, f"{word} x", "halt")
            self.assertEqual(rounds(back(126)), [])
            self.assertEqual(rounds(back(127)), [(131,)])
            self.assertEqual(assemble(back(126)).parts[0].stretches[0].holds, ((127, "near", "x", 0),))
            self.assertEqual(assemble(back(127)).parts[0].stretches[0].holds, ((128, "full", "x", 0),))
            self.assertEqual(len(assemble(on(128))), 3 + 128 + 1)

    def test_one_becomes_long_by_another(self):
        text = text_of(
            "part a", "code m 1", "go x", "go y", *["halt"] * 125, "x:", "halt", "halt", "halt", "y:", "halt")
        # x is 127 behind the first one, y 128 behind the second one: that grows first.
        self.assertEqual(rounds(text), [(4,), (3,)])
        stretch = assemble(text).parts[0].stretches[0]
        self.assertEqual(stretch.holds, ((1, "full", "x", 0), (4, "full", "y", 0)))

    def test_several_at_once(self):
        text = text_of("part a", "code m 1", "go x", "call x", "if a x", *["halt"] * 128, "x:", "halt")
        self.assertEqual(rounds(text), [(3, 4, 5)])
        text = text_of("part a", "code m 1", "go x", "go x", "go x", *["halt"] * 124, "x:", "halt")
        # 128, 126, 124 behind them; when the first grew nothing changes behind it.
        self.assertEqual(rounds(text), [(3,)])

    def test_a_chain(self):
        text = ["part a", "code m 1", "go b"] + ["halt"] * 60 + ["go c"] + ["halt"] * 65 + ["b:"] + ["halt"] * 62 + ["c:", "halt"]
        # b is 60 + 2 + 65 = 127 behind the first one; c is 65 + 62 = 127 behind the second one.
        self.assertEqual(rounds(text_of(*text)), [])
        text.insert(-2, "halt")
        self.assertEqual(rounds(text_of(*text)), [(64,), (3,)])

    def test_over_stretches_and_parts(self):
        far = ["x:", *["halt"] * 127, "go x", "halt"]
        text = text_of("part a", "code m 1", *far, "code n 1", "go y", *["halt"] * 127, "y:", "halt", "part b", "code m 1", *far)
        self.assertEqual(rounds(text), [(131, 394)])

    def test_labels_of_other_stretches_and_none(self):
        text = text_of("part a", "code m 1", "go x", "call y", "if a m", "halt", "code n 1", "x:", "halt")
        self.assertEqual(rounds(text), [])
        self.assertEqual([hold[1] for hold in assemble(text).parts[0].stretches[0].holds], ["full"] * 3)

    def test_weak_labels(self):
        text = text_of("part a", "weak x", "code m 1", "x:", "go x", "call x", "if d x", "halt")
        self.assertEqual(rounds(text), [])
        stretch = assemble(text).parts[0].stretches[0]
        self.assertEqual(stretch.data, (0x61, 0, 0, 0x63, 0, 0, 0x6b, 0, 0, 0))
        self.assertEqual(stretch.holds, ((1, "full", "x", 0), (4, "full", "x", 0), (7, "full", "x", 0)))
        told = text.replace("weak", "told")
        self.assertEqual(len(assemble(told)), 7)

    def test_words_with_a_mark_stay_as_they_are(self):
        text = text_of("part a", "code m 1", "x:", "go.long x", "go.short x", "go x", "set.long a 5", "set.short a 5", "halt")
        self.assertEqual(rounds(text), [])
        self.assertEqual(len(assemble(text)), 3 + 2 + 2 + 3 + 2 + 1)

    def test_set_is_in_no_round(self):
        self.assertEqual(rounds(text_of("part a", "code m 1", "set a 256", "set a 65535", "halt")), [])

    def test_none_becomes_short_again(self):
        # By growing, the first one brings nothing nearer; all that grew stays long.
        text = text_of("part a", "code m 1", "x:", "go y", *["halt"] * 124, "go x", "halt", "halt", "y:", "halt")
        # y is 128 behind its word, x 128 ahead of what is behind its own.
        self.assertEqual(rounds(text), [(4,), (129,)])

    def test_against_a_plain_reckoning(self):
        chance = random.Random(5)
        for _ in range(60):
            names = ["abcdefgh"[k] for k in range(chance.randrange(1, 8))]
            rows = []
            for name in names:
                rows += [chance.choice(["go", "call", "if a"]) + " " + chance.choice(names)
                         for _ in range(chance.randrange(1, 5))]
                rows += ["halt"] * chance.randrange(0, 130)
                rows += [name + ":"]
                rows += ["halt"] * chance.randrange(0, 5)
            rows += ["halt"]
            text = text_of("part p", "code m 1", *rows)
            self.assertEqual(rounds(text), plain_rounds(rows))
            self.assertTrue(shows_rounds(text, plain_rounds(rows)))
            self.assertIsInstance(assemble(text), Unit)


def plain_rounds(rows):
    longs, told = set(), []
    while True:
        places, at = [], 0
        labels = {}
        for k, row in enumerate(rows):
            places.append(at)
            if row.endswith(":"):
                labels[row[:-1]] = at
            else:
                at += 1 if row == "halt" else 3 if k in longs else 2
        grown = [
            k for k, row in enumerate(rows) if " " in row and k not in longs
            and not -128 <= labels[row.split(" ")[-1]] - places[k] - 2 <= 127]
        if not grown:
            return told
        longs |= set(grown)
        told.append(tuple(k + 3 for k in grown))


class ShowsRounds(Case):
    text = text_of("part a", "code m 1", "go x", "go y", *["halt"] * 125, "x:", "halt", "halt", "halt", "y:", "halt")

    def test_just_that_list(self):
        self.assertIs(shows_rounds(self.text, [(4,), (3,)]), True)
        self.assertIs(shows_rounds(self.text, thing=Rows([Row((4,)), Row((3,))])), True)
        for thing in ([], [(4,)], [(3,), (4,)], [(4,), (3,), ()], [(4, 3)], [(3, 4)], ((4,), (3,)), [[4], [3]], [4, 3],
                      [("4",), ("3",)], [(4,), (3, 3)], [(4,), (3,), (3,)], [(4,), [3]]):
            self.assertIs(shows_rounds(self.text, thing), False, thing)

    def test_of_anything(self):
        for thing in anything():
            self.assertIs(shows_rounds(self.text, thing), False)
            self.assertIs(shows_rounds("part a", thing), type(thing) is list and thing == [])

    def test_true_is_not_one(self):
        # The rows of a text begin with the part, so that row 1 makes nothing: but True isn't 1 anywhere.
        self.assertFalse(shows_rounds(self.text, [(4,), (3,), (True,)]))
        self.assertFalse(shows_rounds("part a", False))

    def test_what_is_told_may_be_changed(self):
        told = rounds(self.text)
        told.clear()
        self.assertEqual(rounds(self.text), [(4,), (3,)])


class MadeBy(Case):
    def test_each_row_that_makes_bytes(self):
        text = text_of(
            "note", "part a", "part b", "code m 4", "x:", "set a 5", "set a 300", "row 9", "go x", "halt", "room r 1",
            "leave 7", "y:", "leave 4000", "data d 1", "bytes 1 2 3", "two 1 2", "zeros 5", "held x+3", "part c", "data m 1",
            "two 7")
        text = text.replace("leave 4000", "leave 3993")
        self.assertEqual(made_by(text), {
            6: (1, 0, 0, 2), 7: (1, 0, 2, 3), 9: (1, 0, 5, 2), 10: (1, 0, 7, 1), 12: (1, 1, 0, 7), 14: (1, 1, 7, 3993),
            16: (1, 2, 0, 3), 17: (1, 2, 3, 4), 18: (1, 2, 7, 5), 19: (1, 2, 12, 2), 22: (2, 0, 0, 2)})

    def test_no_bytes(self):
        self.assertEqual(made_by("part a\nnote"), {})

    def test_long_words(self):
        text = text_of("part a", "code m 1", "go x", *["halt"] * 128, "x:", "halt")
        self.assertEqual(made_by(text)[3], (0, 0, 0, 3))
        self.assertEqual(made_by(text)[4], (0, 0, 3, 1))
        self.assertEqual(made_by(text)[133], (0, 0, 131, 1))

    def test_each_byte_is_of_just_one(self):
        text = text_of(
            "part a", "code m 1", "x:", "go x", "set b 300", "halt", "data d 1", "two 5 6 7", "zeros 9", "held x", "bytes 1",
            "part b", "room r 1", "leave 3", "leave 4")
        bytes_made = [
            (part, stretch, offset + k) for part, stretch, offset, many in made_by(text).values() for k in range(many)]
        unit = assemble(text)
        self.assertEqual(sorted(bytes_made), [
            (k, n, at) for k, part in enumerate(unit.parts) for n, stretch in enumerate(part.stretches)
            for at in range(len(stretch))])

    def test_what_is_told_may_be_changed(self):
        text = "part a\ncode m 1\nhalt"
        told = made_by(text)
        self.assertTrue(is_exact(told))
        told.clear()
        self.assertEqual(made_by(text), {3: (0, 0, 0, 1)})


if __name__ == "__main__":
    unittest.main()
