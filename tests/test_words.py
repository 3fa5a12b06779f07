"""[12]: words as tuples, bytes and texts."""

import unittest

from byteround.errors import NoWord
from byteround.words import bytes_of_word, is_word, read_word, show_word, word_at, words_of
from tests.anything import Number, Row, Text, anything, is_exact

BOUNDS = {
    "set.short": (0, 255), "set.long": (0, 65535),
    "go.short": (-128, 127), "call.short": (-128, 127), "if.short": (-128, 127),
    "go.long": (0, 65535), "call.long": (0, 65535), "if.long": (0, 65535), "point": (0, 65535),
}

SHOWN = {name: {str(number) for number in range(least, most + 1)} for name, (least, most) in BOUNDS.items()}

# By the first byte, written out: the name and the registers.
TABLE = {
    0x00: "halt", 0x01: "back", 0x04: "out a", 0x05: "out b", 0x06: "out c", 0x07: "out d",
    0x08: "in a", 0x09: "in b", 0x0a: "in c", 0x0b: "in d",
    0x0c: "push a", 0x0d: "push b", 0x0e: "push c", 0x0f: "push d",
    0x10: "pop a", 0x11: "pop b", 0x12: "pop c", 0x13: "pop d",
    0x14: "set.short a", 0x15: "set.short b", 0x16: "set.short c", 0x17: "set.short d",
    0x18: "set.long a", 0x19: "set.long b", 0x1a: "set.long c", 0x1b: "set.long d",
    0x20: "copy a a", 0x21: "copy a b", 0x22: "copy a c", 0x23: "copy a d",
    0x24: "copy b a", 0x25: "copy b b", 0x26: "copy b c", 0x27: "copy b d",
    0x28: "copy c a", 0x29: "copy c b", 0x2a: "copy c c", 0x2b: "copy c d",
    0x2c: "copy d a", 0x2d: "copy d b", 0x2e: "copy d c", 0x2f: "copy d d",
    0x30: "add a a", 0x31: "add a b", 0x32: "add a c", 0x33: "add a d",
    0x34: "add b a", 0x35: "add b b", 0x36: "add b c", 0x37: "add b d",
    0x38: "add c a", 0x39: "add c b", 0x3a: "add c c", 0x3b: "add c d",
    0x3c: "add d a", 0x3d: "add d b", 0x3e: "add d c", 0x3f: "add d d",
    0x40: "less a a", 0x41: "less a b", 0x42: "less a c", 0x43: "less a d",
    0x44: "less b a", 0x45: "less b b", 0x46: "less b c", 0x47: "less b d",
    0x48: "less c a", 0x49: "less c b", 0x4a: "less c c", 0x4b: "less c d",
    0x4c: "less d a", 0x4d: "less d b", 0x4e: "less d c", 0x4f: "less d d",
    0x50: "times a a", 0x51: "times a b", 0x52: "times a c", 0x53: "times a d",
    0x54: "times b a", 0x55: "times b b", 0x56: "times b c", 0x57: "times b d",
    0x58: "times c a", 0x59: "times c b", 0x5a: "times c c", 0x5b: "times c d",
    0x5c: "times d a", 0x5d: "times d b", 0x5e: "times d c", 0x5f: "times d d",
    0x60: "go.short", 0x61: "go.long", 0x62: "call.short", 0x63: "call.long",
    0x64: "if.short a", 0x65: "if.short b", 0x66: "if.short c", 0x67: "if.short d",
    0x68: "if.long a", 0x69: "if.long b", 0x6a: "if.long c", 0x6b: "if.long d",
    0x70: "point p", 0x71: "point q",
    0x78: "walk p a", 0x79: "walk p b", 0x7a: "walk p c", 0x7b: "walk p d",
    0x7c: "walk q a", 0x7d: "walk q b", 0x7e: "walk q c", 0x7f: "walk q d",
    0x80: "turn p a", 0x81: "turn p b", 0x82: "turn p c", 0x83: "turn p d",
    0x84: "turn q a", 0x85: "turn q b", 0x86: "turn q c", 0x87: "turn q d",
    0x88: "load a p", 0x89: "load b p", 0x8a: "load c p", 0x8b: "load d p",
    0x8c: "load a q", 0x8d: "load b q", 0x8e: "load c q", 0x8f: "load d q",
    0x90: "store a p", 0x91: "store b p", 0x92: "store c p", 0x93: "store d p",
    0x94: "store a q", 0x95: "store b q", 0x96: "store c q", 0x97: "store d q",
    0x98: "same a", 0x99: "same b", 0x9a: "same c", 0x9b: "same d",
    0xa0: "move p p", 0xa1: "move p q", 0xa2: "move q p", 0xa3: "move q q",
    0xa4: "take p p", 0xa5: "take p q", 0xa6: "take q p", 0xa7: "take q q",
    0xa8: "keep p p", 0xa9: "keep p q", 0xaa: "keep q p", 0xab: "keep q q",
    0xac: "callat p", 0xad: "callat q", 0xae: "goat p", 0xaf: "goat q",
    0xb0: "none a p", 0xb1: "none b p", 0xb2: "none c p", 0xb3: "none d p",
    0xb4: "none a q", 0xb5: "none b q", 0xb6: "none c q", 0xb7: "none d q",
}


def width_of(name):
    """How many bytes the named word's field has."""
    if name not in BOUNDS:
        return 0
    return 1 if name.endswith(".short") else 2


def field_bytes(name, number):
    """The bytes of the named word's field."""
    if name not in BOUNDS:
        return ()
    if number < 0:
        number += 256
    return (number,) if width_of(name) == 1 else (number // 256, number % 256)


def numbers_of(name):
    """Numbers of the named word's field, at its bounds and within."""
    if name not in BOUNDS:
        return [None]
    least, most = BOUNDS[name]
    return sorted(n for n in {least, least + 1, -1, 0, 1, 9, 10, 99, 100, 127, 128, 255, 256, 4660, most - 1, most}
                  if least <= n <= most)


def all_words():
    """Each word of the table, with its bytes and its text."""
    for byte, text in TABLE.items():
        name, *letters = text.split(" ")
        for number in numbers_of(name):
            row = (byte,) + field_bytes(name, number)
            shown = text if number is None else f"{text} {number}"
            yield (name, "".join(letters), number), row, shown


class Table(unittest.TestCase):
    def test_each_word_of_the_table(self):
        for word, row, text in all_words():
            self.assertIs(is_word(word), True, word)
            self.assertEqual(bytes_of_word(word), row)
            self.assertEqual(word_at(row), (word, len(row)))
            self.assertEqual(words_of(row), [(0, word)])
            self.assertEqual(show_word(word), text)
            self.assertEqual(read_word(text), word)
            told = [bytes_of_word(word), word_at(row), words_of(row), show_word(word), read_word(text)]
            self.assertTrue(is_exact(told))

    def test_each_byte_that_begins_no_word(self):
        for byte in range(256):
            if byte in TABLE:
                self.assertEqual(word_at((byte, 0, 0))[0][0], TABLE[byte].split(" ")[0])
            else:
                for row, at in (((byte,), 0), ((0, byte, 0, 0), 1)):
                    with self.assertRaises(NoWord) as caught:
                        word_at(row, at=at)
                    self.assertEqual(caught.exception.at, at)

    def test_fields_below_nought(self):
        self.assertEqual(bytes_of_word(("go.short", "", -3)), (0x60, 253))
        self.assertEqual(word_at((0x67, 128)), (("if.short", "d", -128), 2))
        self.assertEqual(word_at((0x62, 127)), (("call.short", "", 127), 2))
        self.assertEqual(word_at((0x15, 255)), (("set.short", "b", 255), 2))


class IsWord(unittest.TestCase):
    def test_fields_beyond_their_bounds(self):
        for name, (least, most) in BOUNDS.items():
            letters = {"p": "p", "s": "a", "i": "a"}.get(name[0], "")
            for number in (least, most, Number(most)):
                self.assertIs(is_word((name, letters, number)), True)
            for number in (least - 1, most + 1, None, "5", 10 ** 5000, -(10 ** 5000), True, False, (5,), [5]):
                self.assertIs(is_word((name, letters, number)), False, (name, number))

    def test_a_number_where_no_field_is(self):
        for byte, text in TABLE.items():
            name, *letters = text.split(" ")
            if name not in BOUNDS:
                for number in (0, 1, False, "", ()):
                    self.assertIs(is_word((name, "".join(letters), number)), False)

    def test_registers(self):
        right = {(word[0], word[1]) for word, _, _ in all_words()}
        letters = "abcdpqex"
        tried = ["", "A", " ", "abc"] + list(letters) + [one + other for one in letters for other in letters]
        for name in {word[0] for word, _, _ in all_words()}:
            for registers in tried:
                word = (name, registers, 0 if name in BOUNDS else None)
                self.assertIs(is_word(word), (name, registers) in right, word)
            for registers in (None, 0, True, (), ("a",), ["a"], ("a", "b"), {"a": "b"}):
                self.assertIs(is_word((name, registers, 0 if name in BOUNDS else None)), False)

    def test_names(self):
        for name in ("", "Halt", "set", "go", "if", "call", "hal", "halts", "halt ", "jump", None, 0, True, ("halt",),
                     ["halt"], {"halt": 1}):
            for number in (None, 0):
                self.assertIs(is_word((name, "", number)), False)
                self.assertIs(is_word((name, "a", number)), False)

    def test_shapes(self):
        for thing in (("halt", ""), ("halt", "", None, None), ["halt", "", None], "halt", (), ("halt",)):
            self.assertIs(is_word(thing), False)
        for thing in anything():
            self.assertIs(is_word(thing), False)
            self.assertIs(is_word((thing, "", None)), False)
            self.assertIs(is_word((thing, thing, thing)), False)
        self.assertIs(is_word(Row((Text("copy"), Text("ab"), None))), True)


class Reading(unittest.TestCase):
    def refused(self, row, **more):
        with self.assertRaises(NoWord) as caught:
            word_at(row, **more)
        return caught.exception.at

    def test_at_a_place(self):
        row = (0x00, 0x18, 1, 2, 0x21)
        self.assertEqual(word_at(row, at=1), (("set.long", "a", 258), 4))
        self.assertEqual(word_at(at=4, row=row), (("copy", "ab", None), 5))
        self.assertEqual(word_at(row, at=2), (("back", "", None), 3))

    def test_where_there_is_no_place(self):
        self.assertEqual(self.refused(()), 0)
        self.assertEqual(self.refused((0,), at=1), 1)
        self.assertEqual(self.refused((0,), at=7), 7)
        self.assertEqual(self.refused((0, 1), at=-1), -1)

    def test_a_row_that_ends_amid_the_field(self):
        for word, row, _ in all_words():
            for many in range(1, len(row)):
                self.assertEqual(self.refused(row[:many]), many)
                self.assertEqual(self.refused((0, 1) + row[:many], at=2), many + 2)

    def test_words_of_a_row(self):
        row = (0x60, 0x02, 0x21, 0x61, 0x01, 0x00, 0x00)
        words = [(0, ("go.short", "", 2)), (2, ("copy", "ab", None)), (3, ("go.long", "", 256)), (6, ("halt", "", None))]
        self.assertEqual(words_of(row), words)
        self.assertEqual(words_of(()), [])
        words_of(row).append(None)
        self.assertEqual(words_of(row), words)

    def test_words_of_a_whole_table(self):
        row = ()
        words = []
        for word, more, _ in all_words():
            words.append((len(row), word))
            row += more
        self.assertEqual(words_of(row), words)

    def test_no_words_of_a_row(self):
        for row, at in (((2,), 0), ((0, 3, 2), 1), ((0x14, 2, 0xff, 0x60), 2), ((0, 0x60), 2), ((0, 0x61, 5), 3)):
            with self.assertRaises(NoWord) as caught:
                words_of(row)
            self.assertEqual(caught.exception.at, at)


class Texts(unittest.TestCase):
    def refused(self, text):
        with self.assertRaises(NoWord) as caught:
            read_word(text)
        self.assertEqual(caught.exception.at, 0)
        self.assertIs(type(caught.exception.at), int)

    def test_texts_that_the_document_shows(self):
        self.assertEqual(read_word("copy a b"), ("copy", "ab", None))
        self.assertEqual(read_word("set.short a 5"), ("set.short", "a", 5))
        self.assertEqual(read_word("go.short -3"), ("go.short", "", -3))
        self.assertEqual(show_word(("halt", "", None)), "halt")

    def test_a_sign_more_or_less(self):
        for _, _, text in all_words():
            for at in range(len(text) + 1):
                others = [text[:at] + sign + text[at:] for sign in " -\n.x0"] + [text[:at] + text[at + 1:]]
                for other in others:
                    if not self.is_right(other):
                        self.refused(other)

    @staticmethod
    def is_right(text):
        """Whether the text is a word's, by the table written out above."""
        if text in TABLE.values():
            return text.split(" ")[0] not in BOUNDS
        begin, _, number = text.rpartition(" ")
        if begin not in TABLE.values() or begin.split(" ")[0] not in BOUNDS:
            return False
        return number in SHOWN[begin.split(" ")[0]]

    def test_noughts_ahead(self):
        for text in ("set.short a 05", "set.short a 00", "set.long b 0255", "go.short -03", "go.short -0", "go.short 00",
                     "point p 01", "set.short a 000000000005"):
            self.refused(text)

    def test_other_signs(self):
        for text in ("go.short +3", "go.short --3", "go.short - 3", "go.short 3-", "set.short a 1_0", "set.short a 5.0",
                     "set.short a 0x5", "set.short a \u0665", "set.short a \u00b2", "set.short a ", "set.short a",
                     "set.short a  5", "set.short  a 5", " set.short a 5", "set.short a 5 ", "set.short a 5\n",
                     "set.short\na 5", "set.short a 5 6", "copy ab", "copy a", "copy a b c", "copy  ab", "copy ab ",
                     "copy a b 0", "copy a p", "halt 0", "halt ", "HALT", "", " ", "set a 5", "go 3", "go", "go.short",
                     "go.short a", "go.short -", "point 5", "point a 5", "point p", "walk a p", "load p a"):
            self.refused(text)

    def test_beyond_the_bounds(self):
        for name, (least, most) in BOUNDS.items():
            letters = {"p": " p", "s": " a", "i": " a"}.get(name[0], "")
            self.assertEqual(read_word(f"{name}{letters} {least}")[2], least)
            self.assertEqual(read_word(f"{name}{letters} {most}")[2], most)
            self.refused(f"{name}{letters} {least - 1}")
            self.refused(f"{name}{letters} {most + 1}")

    def test_very_many_figures(self):
        for many in (6, 4299, 4300, 4301, 20000):
            for figures in ("9" * many, "0" * many, "-" + "9" * many, "0" * (many - 1) + "5"):
                self.refused(f"set.short a {figures}")
                self.refused(f"go.short {figures}")

    def test_no_texts(self):
        for thing in anything() + [("halt", "", None), ["halt"], b"halt"]:
            self.refused(thing)
        self.assertEqual(read_word(Text("push c")), ("push", "c", None))


class Places(unittest.TestCase):
    def test_names_alone_behind_the_star(self):
        with self.assertRaises(TypeError):
            word_at((0,), 0)


if __name__ == "__main__":
    unittest.main()
