"""[22], [23]: what is a text, and where what is none is refused."""

import itertools
import unittest

from byteround.assembling import assemble, made_by, rounds, shows_rounds
from byteround.errors import Wrong
from byteround.texts import need_text
from tests.anything import Text, anything

LONG = "9" * 5000

# A stretch of each kind in which a row may stand.
IN_CODE = "part a\ncode m 1\n{}\nhalt"
IN_DATA = "part a\ndata m 1\n{}\nbytes 0"
IN_ROOM = "part a\nroom m 1\n{}\nleave 1"
IN_PART = "part a\n{}\ncode m 1\nx:\npoint p y\nhalt"

REGISTERS = {
    "halt": "", "back": "", "out": "n", "in": "n", "push": "n", "pop": "n", "copy": "nm", "add": "nm", "less": "nm",
    "times": "nm", "walk": "xn", "turn": "xn", "load": "nx", "store": "nx", "same": "n", "move": "xy", "take": "xy",
    "keep": "xy", "callat": "x", "goat": "x", "none": "nx"}
LETTERS = {"n": "abcd", "m": "abcd", "x": "pq", "y": "pq"}


class Case(unittest.TestCase):
    def good(self, text):
        try:
            self.assertIsNone(need_text(text), text)
        except Wrong as why:
            self.fail((text, why.row, why.word))

    def wrong(self, row, word, text):
        for ask in (need_text, assemble, rounds, made_by, lambda text: shows_rounds(text, [])):
            with self.assertRaises(Wrong, msg=text) as caught:
                ask(text)
            self.assertEqual((caught.exception.row, caught.exception.word), (row, word), text)

    def word_wrong(self, word, row, frame=IN_CODE):
        """The row is none by itself, in every frame, also behind rows that are wrong among the others."""
        self.wrong(3 if frame != IN_PART else 2, word, frame.format(row))
        self.wrong(3, word, "halt\nbytes 1\n" + row)


class NoTexts(Case):
    def test_of_anything(self):
        for thing in anything():
            if not isinstance(thing, str):
                self.wrong(0, 0, thing)
        self.wrong(0, 0, ["part a"])

    def test_the_empty_text(self):
        self.wrong(1, 0, "")

    def test_rows_without_signs(self):
        self.wrong(1, 0, "\npart a")
        self.wrong(2, 0, "part a\n")
        self.wrong(2, 0, "part a\n\ncode m 1\nhalt")
        self.wrong(1, 0, "\n")

    def test_a_text_of_another_class(self):
        self.good(Text("part a"))

    def test_notes_alone(self):
        self.wrong(1, 0, "note")
        self.wrong(1, 0, "note ")
        self.wrong(3, 0, "note part a\nnote\nnote  ")
        self.wrong(2, 0, "note\nhello")


class Blanks(Case):
    def test_no_empty_words(self):
        for row, frame in (("halt", IN_CODE), ("out a", IN_CODE), ("bytes 1 2", IN_DATA), ("x:", IN_CODE),
                           ("leave 5", IN_ROOM), ("row 5", IN_ROOM), ("told x", IN_PART), ("go m", IN_CODE)):
            self.good(frame.format(row))
            words = row.split(" ")
            self.word_wrong(0, " " + row, frame)
            self.word_wrong(len(words), row + " ", frame)
            for k in range(1, len(words)):
                self.word_wrong(k, " ".join(words[:k] + [""] + words[k:]), frame)
        self.wrong(1, 2, "part a ")
        self.wrong(1, 0, " part a")
        self.wrong(1, 1, "part  a")
        self.wrong(2, 3, "part a\ncode m 1 ")

    def test_notes(self):
        for note in ("note", "note ", "note  ", "note a  b ", "note part a", "note 9 :+ -", "note note", "note ~ !"):
            self.good(note + "\npart a\n" + note + "\ntold x\n" + note + "\ncode m 1\n" + note + "\nx:\nhalt\n" + note)
            self.good(f"part a\ndata m 1\n{note}\nbytes 1\n{note}\nroom n 1\n{note}\nleave 3")
        self.wrong(1, 0, " note\npart a")
        self.wrong(1, 0, "notes\npart a")
        self.wrong(1, 0, "Note\npart a")


class RowsByThemselves(Case):
    def test_first_words(self):
        for row in ("part", "", "x", "x.", ":", "ab c:", "A:", "abcdefghi:", "x::", "9", "HALT", "halt.short", "set.mid",
                    "go.", "point.long", "copy.short", "out.long", ".short", "go.short.short", "byte", "zero", "go.Long"):
            self.word_wrong(1 if row == "part" else 0, row)
        self.word_wrong(0, "x: halt".replace("x: ", "x; "))
        self.word_wrong(1, "x: halt")
        for label in ("x:", "abcdefgh:", "note:", "part:", "halt:", "go:"):
            self.good(IN_CODE.format(label))

    def test_parts_and_their_names(self):
        for name in ("a", "abcdefgh"):
            self.good("part " + name)
        for name in ("", "A", "abcdefghi", "a1", "a:", "1", "a+1", "a-b"):
            self.wrong(1, 1, "part " + name)
            for sort in ("told", "weak", "soft"):
                self.word_wrong(1, f"{sort} {name}", IN_PART)
            for sort in ("code", "data", "room"):
                self.wrong(2, 1, f"part a\n{sort} {name} 1\nhalt")
        for sort in ("part", "told", "weak", "soft"):
            self.wrong(2, 1, f"part a\n{sort}")
            self.wrong(2, 2, f"part a\n{sort} a b")
        for sort, name in (("told", "x"), ("weak", "x"), ("soft", "y")):
            self.good(IN_PART.format(f"{sort} {name}"))

    def test_stretches(self):
        rows = {"code": "halt", "data": "bytes 1", "room": "leave 1"}
        for sort, row in rows.items():
            for step in (1, 2, 4, 8, 16):
                self.good(f"part a\n{sort} m {step}\n{row}")
            for step in ("0", "3", "5", "6", "7", "9", "10", "12", "15", "17", "32", "01", "016", "", "x", "1:", "-1", LONG):
                self.wrong(2, 2, f"part a\n{sort} m {step}\n{row}")
            self.wrong(2, 1, f"part a\n{sort}")
            self.wrong(2, 2, f"part a\n{sort} m")
            self.wrong(2, 3, f"part a\n{sort} m 1 1")

    def numbers(self, least, most, row, word, frame):
        """The row, which has {} for the number in its word, takes numbers from least to most."""
        for number in (least, least + 1, most - 1, most):
            self.good(frame.format(row.format(number)))
        for number in (most + 1, LONG, "0" + str(least), "00", "-1", "+1", "1.", "", "x", "1:", "0x1", "1_0", "\u0661"):
            self.word_wrong(word, row.format(number), frame)
        if least > 0:
            self.word_wrong(word, row.format(least - 1), frame)

    def test_numbers(self):
        for row, frame in (("row {}", IN_CODE), ("row {}", IN_DATA), ("row {}", IN_ROOM)):
            self.numbers(0, 60000, row, 1, frame)
        self.numbers(0, 255, "bytes {}", 1, IN_DATA)
        self.numbers(0, 255, "bytes 1 {}", 2, IN_DATA)
        self.numbers(0, 255, "bytes 1 {} 2", 2, IN_DATA)
        self.numbers(0, 65535, "two {}", 1, IN_DATA)
        self.numbers(0, 65535, "two 1 2 {} 3", 3, IN_DATA)
        self.numbers(1, 4000, "zeros {}", 1, "part a\ndata m 1\n{}\nnote")
        self.numbers(1, 4000, "leave {}", 1, "part a\nroom m 1\n{}\nnote")
        self.numbers(1, 65535, "held x+{}", 1, IN_DATA)
        for n in "abcd":
            self.numbers(0, 255, f"set.short {n} {{}}", 2, IN_CODE)
            self.numbers(0, 65535, f"set.long {n} {{}}", 2, IN_CODE)
            self.numbers(0, 65535, f"set {n} {{}}", 2, IN_CODE)
        for x in "pq":
            self.numbers(1, 65535, f"point {x} y+{{}}", 2, IN_CODE)

    def test_the_documents_own(self):
        self.word_wrong(2, "set.short a 256")
        self.word_wrong(2, "point p x+0")
        self.word_wrong(1, "held x+0", IN_DATA)

    def test_too_few_and_too_many(self):
        for row, frame in (("bytes", IN_DATA), ("two", IN_DATA), ("zeros", IN_DATA), ("held", IN_DATA), ("leave", IN_ROOM),
                           ("row", IN_CODE), ("set", IN_CODE), ("go", IN_CODE), ("call", IN_CODE), ("if", IN_CODE),
                           ("point", IN_CODE), ("out", IN_CODE), ("copy", IN_CODE), ("walk", IN_CODE)):
            self.word_wrong(1, row, frame)
        for row in ("set a", "set.short a", "set.long d", "if a", "if.short b", "if.long c", "point p", "copy a", "walk q",
                    "load a", "move p", "none a"):
            self.word_wrong(2, row)
        for row, frame in (("zeros 5 5", IN_DATA), ("held x x", IN_DATA), ("leave 1 1", IN_ROOM), ("row 1 2", IN_CODE),
                           ("go x y", IN_CODE), ("call x 3", IN_CODE), ("out a a", IN_CODE), ("goat p p", IN_CODE)):
            self.word_wrong(2, row, frame)
        for row in ("set a 5 5", "if a x x", "point p x 1", "copy a b c", "take p q p"):
            self.word_wrong(3, row)
        self.word_wrong(1, "halt halt")

    def test_registers(self):
        for name, pattern in REGISTERS.items():
            for letters in itertools.product(*[LETTERS[letter] for letter in pattern]):
                self.good(IN_CODE.format(" ".join([name, *letters])))
            for k, letter in enumerate(pattern):
                other = {"n": "p", "m": "q", "x": "a", "y": "b"}[letter]
                for strange in (other, "e", "A", "ab", "pq", "0", "", "abcd", "a:"):
                    words = [LETTERS[letter][0] for letter in pattern]
                    words[k] = strange
                    self.word_wrong(k + 1, " ".join([name, *words]))
            if pattern:
                self.word_wrong(len(pattern) + 1, " ".join([name, *[LETTERS[letter][1] for letter in pattern], "5"]))
        for row in ("set p 5", "set.short e 5", "if q x", "if.short ab x", "point a x", "point c x+5"):
            self.word_wrong(1, row)

    def test_names_in_code(self):
        for word in ("go", "go.long", "call", "call.long", "if a", "if.long d", "point p"):
            many = len(word.split(" "))
            for name in ("x", "abcdefgh", "m", "halt"):
                self.good(IN_CODE.format(f"{word} {name}"))
            for name in ("X", "abcdefghi", "5", "-5", "x:", "", "x-1", "x+", "x+a", "+1", "x+1+1"):
                self.word_wrong(many, f"{word} {name}")
            if word != "point p":
                self.word_wrong(many, f"{word} x+1")
        for word in ("go.short", "call.short", "if.short a"):
            many = len(word.split(" "))
            for name in ("5", "x+1", "", "X", "-128"):
                self.word_wrong(many, f"{word} {name}")
        for name in ("x", "x+5", "abcdefgh+65535"):
            self.good(IN_DATA.format("held " + name))
        for name in ("5", "x+", "x+65536", "x-1", "X+1", "+5", "x+1+1", "x+01", "abcdefghi+1"):
            self.word_wrong(1, "held " + name, IN_DATA)

    def test_the_first_of_all_rows(self):
        self.wrong(4, 1, "halt\ntold x\npart a\nout e\nout f\nbytes")
        self.wrong(2, 0, "part a\nxx\nout e")

    def test_two_wrong_words(self):
        self.word_wrong(1, "copy e f")
        self.word_wrong(1, "set p 70000")
        self.word_wrong(1, "code M 3")
        self.word_wrong(1, "bytes x 256", IN_DATA)
        self.word_wrong(1, "set p")


class Placed(Case):
    def test_one_to_three_parts(self):
        self.good("part a")
        self.good("part a\npart b\npart a")
        self.good("part a\ntold x\ncode m 1\nx:\nhalt\npart b\ncode m 1\nx:\nhalt\npart c\ntold x\ndata m 1\nx:\nbytes 5")

    def test_the_first_row_is_a_part(self):
        for row in ("told x", "weak x", "soft x", "code m 1", "data m 1", "room m 1", "x:", "row 5", "halt", "bytes 1",
                    "leave 5", "go x"):
            self.wrong(1, 0, row)
            self.wrong(1, 0, row + "\npart a\ncode m 1\nhalt")
            self.wrong(3, 0, "note\nnote\n" + row + "\npart a")
        self.wrong(1, 0, "code m 1\nhalt\npart a")

    def test_ahead_of_stretches(self):
        for row in ("x:", "row 5", "halt", "bytes 1", "leave 5", "go x", "held x"):
            self.wrong(2, 0, "part a\n" + row)
            self.wrong(4, 0, "part a\nsoft y\nnote\n" + row + "\ncode m 1\ngo y\nhalt")
            self.wrong(5, 0, "part a\ncode m 1\nhalt\npart b\n" + row)

    def test_names_behind_stretches(self):
        for row in ("told x", "weak x", "soft y"):
            self.wrong(6, 0, "part a\ncode m 1\nx:\npoint p y\nhalt\n" + row)
            self.wrong(6, 0, "part a\ncode m 1\nx:\npoint p y\nhalt\n" + row + "\ndata n 1\nbytes 1")
            self.good("part b\ncode m 1\nx:\nhalt\npart a\n" + row + "\ncode m 1\nx:\npoint p y\nhalt")

    def test_rows_in_stretches_of_another_kind(self):
        rows = {"code": ("halt", "go x", "set a 5", "point p x"), "data": ("bytes 1", "two 5", "zeros 3", "held x"),
                "room": ("leave 5",)}
        for kind, own in rows.items():
            for other, strange in rows.items():
                for row in strange:
                    text = f"part a\n{kind} m 1\n{own[0]}\n{row}\n{own[0]}"
                    if kind == other:
                        self.good(text)
                    else:
                        self.wrong(4, 0, text)
            self.good(f"part a\n{kind} m 1\nx:\nrow 5\n{own[0]}\nrow 0")

    def test_what_may_not_stand_counts_for_nothing(self):
        # The stretch has no bytes: its own row goes ahead.
        self.wrong(2, 0, "part a\ncode m 1\nbytes 1 2")
        self.wrong(4, 0, "part a\nroom m 1\nleave 1\nhalt")
        # A label that may not stand isn't one.
        self.wrong(2, 1, "part a\ntold x\nx:\ncode m 1\nhalt")
        self.wrong(2, 0, "part a\nx:\ncode m 1\nx:\nhalt")
        # A weak row behind a stretch makes nothing weak.
        self.wrong(6, 0, "part a\ncode m 1\nx:\ngo.short x\nhalt\nweak x")
        self.wrong(4, 0, "part a\ncode m 1\nhalt\nsoft y\npart b\nsoft y\ncode m 1\ngo y\nhalt")
        # A word in data holds nothing.
        self.wrong(2, 1, "part a\nsoft y\ndata m 1\nbytes 1\npoint p y")


class Faults(Case):
    def test_stretches_of_one_name(self):
        self.wrong(4, 1, "part a\ncode m 1\nhalt\ncode m 1\nhalt")
        self.wrong(6, 1, "part a\ncode m 1\nhalt\ndata n 1\nbytes 1\nroom m 1\nleave 1")
        self.good("part a\ncode m 1\nhalt\npart b\ncode m 1\nhalt")
        # The second one begins a stretch all the same.
        self.wrong(4, 1, "part a\ncode m 1\nhalt\ndata m 1\nbytes 5\ndata m 1\nhalt")

    def test_labels_of_one_name(self):
        self.wrong(5, 0, "part a\ncode m 1\nx:\nhalt\nx:\nhalt")
        self.wrong(4, 0, "part a\ncode m 1\nx:\nx:\nhalt")
        self.wrong(6, 0, "part a\ncode m 1\nx:\nhalt\nroom n 1\nx:\nleave 1")
        self.good("part a\ncode m 1\nx:\nhalt\npart b\ncode m 1\nx:\nhalt")
        self.good("part x\ncode x 1\nx:\nhalt")

    def test_of_a_label_told_twice_the_first_counts(self):
        # That in code counts, so a go may lead there; a short one doesn't reach to the other stretch.
        self.wrong(7, 0, "part a\ncode m 1\nx:\nhalt\ngo x\ndata n 1\nx:\nbytes 1")
        self.wrong(6, 1, "part a\ndata n 1\nx:\nbytes 1\ncode m 1\ngo x\nx:\nhalt")
        self.wrong(6, 1, "part a\ncode n 1\nx:\nhalt\ncode m 1\ngo.short x\nx:\nhalt")

    def test_told_and_weak(self):
        code = "\ncode m 1\nx:\nhalt\ny:\nhalt\npoint p z"
        for sort in ("told", "weak"):
            self.good(f"part a\n{sort} x{code}\nhalt")
            self.good(f"part a\n{sort} y\n{sort} x{code}\nhalt")
            self.wrong(2, 1, f"part a\n{sort} z{code}\nhalt")
            self.wrong(2, 1, f"part a\n{sort} q{code}\nhalt")
            self.wrong(3, 1, f"part a\n{sort} x\n{sort} x{code}\nhalt")
        self.wrong(3, 1, f"part a\ntold x\nweak x{code}\nhalt")
        self.wrong(3, 1, f"part a\nweak x\ntold x{code}\nhalt")
        self.good("part a\ntold x\nweak y\ndata m 1\nx:\nbytes 1\nroom n 1\ny:\nleave 1")
        self.wrong(2, 1, "part a\ntold x")
        # A label of another part is none.
        self.wrong(2, 1, "part a\ntold x\ncode m 1\nhalt\npart b\ncode m 1\nx:\nhalt")

    def test_soft(self):
        for holds in ("go z", "point q z", "call z", "if a z", "point p z+5"):
            self.good(f"part a\nsoft z\ncode m 1\n{holds}\nhalt")
        self.good("part a\nsoft z\ndata m 1\nheld z+3")
        self.good("part a\nsoft z\nsoft y\ndata m 1\nheld y\nheld z")
        self.wrong(2, 1, "part a\nsoft z\ncode m 1\nz:\ngo z")
        self.wrong(2, 1, "part a\nsoft z\ncode m 1\nhalt")
        self.wrong(2, 1, "part a\nsoft z\ncode z 1\nhalt")
        self.wrong(3, 1, "part a\nsoft z\nsoft z\ndata m 1\nheld z")
        self.wrong(2, 1, "part a\nsoft z\ncode m 1\nhalt\npart b\ncode m 1\ngo z\nhalt")
        self.wrong(2, 1, "part a\nsoft z")

    def test_a_label_with_no_byte_behind(self):
        self.wrong(4, 0, "part a\ncode m 1\nhalt\nx:")
        self.wrong(4, 0, "part a\ncode m 1\nhalt\nx:\nrow 5\nnote\ny:")
        self.wrong(4, 0, "part a\ncode m 1\nhalt\nx:\ndata n 1\nbytes 1")
        self.wrong(4, 0, "part a\nroom m 1\nleave 1\nx:\npart b\ncode m 1\nhalt")
        self.wrong(5, 0, "part a\ndata m 1\nheld y\nnote\nx:\nhalt")
        # It counts all the same.
        self.wrong(4, 0, "part a\ncode m 1\ngo.short x\nx:")
        self.wrong(5, 0, "part a\ntold x\ncode m 1\nhalt\nx:")

    def test_sizes(self):
        self.wrong(2, 0, "part a\ncode m 1")
        self.wrong(2, 0, "part a\ndata m 1\nnote bytes 1\nrow 5")
        self.wrong(2, 0, "part a\ncode m 1\ndata n 1\nbytes 1")
        self.wrong(4, 0, "part a\ncode m 1\nhalt\nroom n 1\npart b\nroom n 1\nleave 1")
        self.wrong(2, 0, "part a\nroom m 1\nx:")
        self.good("part a\nroom m 1\nleave 3999\nleave 1")
        self.wrong(2, 0, "part a\nroom m 1\nleave 4000\nleave 1")
        self.good("part a\ndata m 1\nzeros 3000\nzeros 995\nheld x\ntwo 5\nbytes 1")
        self.wrong(2, 0, "part a\ndata m 1\nzeros 3000\nzeros 995\nheld x\ntwo 5\nbytes 1 2")
        # Ahead of its name.
        self.wrong(4, 0, "part a\ncode m 1\nhalt\ncode m 1\nnote")
        self.wrong(4, 0, "part a\ncode m 1\nhalt\nroom m 1\nleave 4000\nleave 4000")

    def test_the_size_hangs_on_the_forms(self):
        # 1331 words of three bytes are 3993 bytes; a go of two or three bytes more.
        many = "\n".join(["set a 256"] * 1331)
        self.good(f"part a\ncode m 1\n{many}\ngo x\ngo y\nx:\nhalt\nhalt")
        self.wrong(2, 0, f"part a\ncode m 1\n{many}\ngo z\ngo y\nx:\nhalt\nhalt")

    def test_what_leads_to_no_code(self):
        for kind, row in (("data", "bytes 1"), ("room", "leave 1")):
            for word in ("go", "go.long", "call", "call.long", "if a", "if.long b"):
                at = len(word.split(" "))
                self.wrong(3, at, f"part a\ncode m 1\n{word} x\nhalt\n{kind} n 1\nx:\n{row}")
                self.wrong(6, at, f"part a\n{kind} n 1\nx:\n{row}\ncode m 1\n{word} x\nhalt")
                self.good(f"part a\ncode m 1\n{word} x\nhalt\npart b\n{kind} n 1\nx:\n{row}")
            self.good(f"part a\ncode m 1\npoint p x\nhalt\n{kind} n 1\nx:\n{row}")
            self.good(f"part a\ndata m 1\nheld x\n{kind} n 1\nx:\n{row}")
            for word in ("go.short", "if.short a"):
                at = len(word.split(" "))
                self.wrong(3, at, f"part a\ncode m 1\n{word} x\nhalt\n{kind} n 1\nx:\n{row}")

    def test_short_ones_to_no_label_of_the_stretch(self):
        for word in ("go.short", "call.short", "if.short d"):
            at = len(word.split(" "))
            self.good(f"part a\ncode m 1\nx:\n{word} x\nhalt")
            self.wrong(3, at, f"part a\ncode m 1\n{word} x\nhalt")
            self.wrong(3, at, f"part a\ncode m 1\n{word} x\nhalt\ncode n 1\nx:\nhalt")
            self.wrong(4, at, f"part a\nsoft x\ncode m 1\n{word} x\nhalt")
            self.wrong(5, at, f"part a\nweak x\ncode m 1\nx:\n{word} x\nhalt")
            self.good(f"part a\ntold x\ncode m 1\nx:\n{word} x\nhalt")
            # What was told ahead isn't weak.
            self.wrong(3, 1, f"part a\ntold x\nweak x\ncode m 1\nx:\n{word} x\nhalt")

    def test_short_ones_that_do_not_reach(self):
        for word in ("go.short", "call.short", "if.short d"):
            at = len(word.split(" "))
            for far, row in ((127, "good"), (128, "wrong")):
                text = f"part a\ncode m 1\n{word} x\n" + "halt\n" * far + "x:\nhalt"
                if row == "good":
                    self.good(text)
                else:
                    self.wrong(3, 0, text)
            self.good("part a\ncode m 1\nx:\n" + "halt\n" * 126 + f"{word} x\nhalt")
            self.wrong(131, 0, "part a\ncode m 1\nx:\n" + "halt\n" * 127 + f"{word} x\nhalt")
            # Weak and too far: the first word that can't stand is the word itself.
            self.wrong(132, 0, "part a\nweak x\ncode m 1\nx:\n" + "halt\n" * 127 + f"{word} x\nhalt")
            self.wrong(131, at, "part a\nweak x\ncode m 1\nx:\n" + "halt\n" * 126 + f"{word} x\nhalt")

    def test_reach_hangs_on_the_forms(self):
        # The go between becomes long, and with it the short one doesn't reach.
        between = "go y\n" + "halt\n" * 124
        tail = "x:\n" + "halt\n" * 126 + "y:\nhalt"
        self.good("part a\ncode m 1\ngo.short x\n" + "halt\n" * 125 + "go.short x\n" + tail)
        self.good(f"part a\ncode m 1\ngo.short x\n{between}{tail}")
        self.wrong(3, 0, f"part a\ncode m 1\ngo.short x\nhalt\n{between}{tail}")

    def test_the_first_row_of_those_that_are_wrong(self):
        self.wrong(2, 1, "part a\ntold q\ncode m 1\nhalt\ncode m 1\nhalt\nbytes 1")
        self.wrong(2, 0, "part a\ncode m 1\npart b\ncode m 1\ngo.short x")
        self.wrong(3, 1, "part a\ncode m 1\ngo.short x\nbytes 4\ncode m 1\nhalt\nx:")

    def test_a_part_without_stretches(self):
        self.good("part a")
        self.good("note\npart a\nnote\npart b\nnote")


if __name__ == "__main__":
    unittest.main()
