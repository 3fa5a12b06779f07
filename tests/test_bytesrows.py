"""[10], [11]: rows of bytes, their texts, numbers, long numbers and sums."""

import unittest

from byteround.bytesrows import bytes_of, is_row, long_at, long_of, number_of, read_hex, show_hex, sum_of
from byteround.errors import NoBytes, NoHex, NoNumber
from tests.anything import Number, Row, Text, anything, is_exact

LENGTHS = (0, 1, 2, 15, 16, 17, 31, 32, 33, 48, 49)


def row_of(many):
    """A row of so many bytes, unlike ones as far as that goes."""
    return tuple(k * 37 % 256 for k in range(many))


def text_of(row):
    """The row's text, made sign by sign."""
    text = ""
    for k, byte in enumerate(row):
        if k > 0:
            text += "\n" if k % 16 == 0 else " "
        text += "0123456789abcdef"[byte // 16] + "0123456789abcdef"[byte % 16]
    return text


class IsRow(unittest.TestCase):
    def test_rows(self):
        for row in [(), (0,), (255,), tuple(range(256)), row_of(5000), Row((1, 2)), (Number(5),)]:
            self.assertIs(is_row(row), True)

    def test_no_rows(self):
        for thing in ([], [1], [1, 2], (256,), (-1,), (True,), (0, False), (1, True, 2), ("a",), ("0",), (None,),
                      ((),), ((1,),), ([1],), "", "abc", 0, 1, None, True, {}, {0: 1}, (0, 256), (10 ** 5000,)):
            self.assertIs(is_row(thing), False, thing)

    def test_of_anything(self):
        told = [thing for thing in anything() if is_row(thing)]
        self.assertEqual(told, [(), (0,), (1, 2)])


class Hex(unittest.TestCase):
    def test_texts(self):
        self.assertEqual(show_hex(()), "")
        self.assertEqual(show_hex((10,)), "0a")
        self.assertEqual(show_hex((0, 255, 160)), "00 ff a0")
        self.assertEqual(show_hex((1,) * 16), " ".join(["01"] * 16))
        self.assertEqual(show_hex((1,) * 17), " ".join(["01"] * 16) + "\n01")
        self.assertEqual(show_hex((1,) * 33), "\n".join([" ".join(["01"] * 16)] * 2) + "\n01")

    def test_there_and_back(self):
        for many in LENGTHS:
            row = row_of(many)
            self.assertEqual(show_hex(row), text_of(row))
            self.assertEqual(read_hex(text_of(row)), row)
        for byte in range(256):
            self.assertEqual(read_hex(show_hex((byte,))), (byte,))

    def test_exactly_the_builtin_kinds(self):
        told = read_hex(Text("0a 0b"))
        self.assertEqual(told, (10, 11))
        self.assertTrue(is_exact(told))
        self.assertTrue(is_exact(show_hex(Row((Number(10),)))))

    def refused(self, text):
        with self.assertRaises(NoHex) as caught:
            read_hex(text)
        return caught.exception.at

    def test_a_wrong_sign_at_any_place(self):
        for many in LENGTHS:
            text = text_of(row_of(many))
            for at in range(len(text)):
                for sign in "gAF:@`/G-x%\t\r\u0663\u00b2" + (" \n" if at % 3 < 2 else "0a"):
                    self.assertEqual(self.refused(text[:at] + sign + text[at + 1:]), at, (text, at, sign))
                if at % 3 == 2:
                    other = {" ": "\n", "\n": " "}[text[at]]
                    self.assertEqual(self.refused(text[:at] + other + text[at + 1:]), at)

    def test_where_more_must_come(self):
        for many in LENGTHS:
            text = text_of(row_of(many))
            for at in range(1, len(text)):
                if at % 3 != 2:
                    self.assertEqual(self.refused(text[:at]), at)
                else:
                    self.assertEqual(show_hex(read_hex(text[:at])), text[:at])

    def test_signs_behind(self):
        self.assertEqual(self.refused("0a "), 3)
        self.assertEqual(self.refused("0a\n"), 2)
        self.assertEqual(self.refused("0a  0b"), 3)
        self.assertEqual(self.refused("0a0b"), 2)
        self.assertEqual(self.refused(text_of(row_of(16)) + "\n"), 48)
        self.assertEqual(self.refused(text_of(row_of(16)) + " "), 47)
        self.assertEqual(self.refused(" "), 0)
        self.assertEqual(self.refused("\n"), 0)
        self.assertEqual(self.refused(" 0a"), 0)

    def test_no_texts(self):
        for thing in anything():
            if not isinstance(thing, str):
                self.assertEqual(self.refused(thing), 0)
        for thing in ((10,), ["0a"], ("0a",), b"0a", 0):
            self.assertEqual(self.refused(thing), 0)


class Numbers(unittest.TestCase):
    def test_so_many_bytes(self):
        self.assertEqual(bytes_of(0), (0, 0))
        self.assertEqual(bytes_of(258), (1, 2))
        self.assertEqual(bytes_of(65535), (255, 255))
        self.assertEqual(bytes_of(5, many=1), (5,))
        self.assertEqual(bytes_of(number=66051, many=4), (0, 1, 2, 3))

    def test_the_bounds_of_so_many_bytes(self):
        for many in (1, 2, 3, 4, 9, 100):
            self.assertEqual(bytes_of(0, many=many), (0,) * many)
            self.assertEqual(bytes_of(256 ** many - 1, many=many), (255,) * many)
            self.assertEqual(bytes_of(256 ** (many - 1), many=many), (1,) + (0,) * (many - 1))
            for number in (-1, 256 ** many, 256 ** many + 1, -(256 ** many), 10 ** 5000):
                with self.assertRaises(NoNumber) as caught:
                    bytes_of(number, many=many)
                self.assertEqual(caught.exception.number, number)

    def test_there_and_back(self):
        for number in (0, 1, 127, 128, 255, 256, 257, 4660, 65279, 65280, 65535):
            self.assertEqual(number_of(bytes_of(number)), number)
            self.assertEqual(number_of(bytes_of(number, many=7)), number)

    def test_number_of(self):
        self.assertEqual(number_of(()), 0)
        self.assertEqual(number_of((0, 0, 7)), 7)
        self.assertEqual(number_of((1, 0, 0)), 65536)
        self.assertEqual(number_of((255,) * 600), 256 ** 600 - 1)

    def test_no_numbers(self):
        for refuser in (bytes_of, long_of):
            for thing in anything():
                if isinstance(thing, bool) or not isinstance(thing, int):
                    with self.assertRaises(NoNumber) as caught:
                        refuser(thing)
                    self.assertEqual(caught.exception.number, thing)
                    self.assertIs(type(caught.exception.number), type(thing))

    def test_the_number_told_is_a_copy(self):
        handed = [1]
        with self.assertRaises(NoNumber) as caught:
            bytes_of(handed)
        caught.exception.number.append(2)
        self.assertEqual(handed, [1])

    def test_sums(self):
        self.assertEqual(sum_of(()), 0)
        self.assertEqual(sum_of((1, 2, 255)), 258)
        self.assertEqual(sum_of((255,) * 257), 65535)
        self.assertEqual(sum_of((255,) * 257 + (1,)), 0)
        self.assertEqual(sum_of((255,) * 1000), 255000 % 65536)


class LongNumbers(unittest.TestCase):
    def test_written(self):
        for number, row in ((0, (0,)), (1, (1,)), (127, (127,)), (128, (129, 0)), (255, (129, 127)),
                            (16383, (255, 127)), (16384, (129, 128, 0)), (2097151, (255, 255, 127)),
                            (2097152, (129, 128, 128, 0))):
            self.assertEqual(long_of(number), row)
            self.assertEqual(long_at(row), (number, len(row)))

    def test_far_beyond(self):
        for number in (2 ** 70, 2 ** 700 - 1, 10 ** 5000, 2 ** 40000 + 12345):
            row = long_of(number)
            self.assertEqual(long_at(row), (number, len(row)))
            self.assertEqual(len(row), -(-number.bit_length() // 7))
            self.assertTrue(all(byte >= 128 for byte in row[:-1]) and row[-1] < 128 and row[0] != 128)

    def test_there_and_back(self):
        for number in list(range(600)) + list(range(16000, 17000)):
            row = (200, 3) + long_of(number) + (128, 5)
            self.assertEqual(long_at(row, at=2), (number, len(row) - 2))

    def test_refused_numbers(self):
        for number in (-1, -128, -(10 ** 5000)):
            with self.assertRaises(NoNumber) as caught:
                long_of(number)
            self.assertEqual(caught.exception.number, number)

    def refused(self, row, **more):
        with self.assertRaises(NoBytes) as caught:
            long_at(row, **more)
        return caught.exception.at

    def test_a_first_byte_128(self):
        self.assertEqual(self.refused((128, 0)), 0)
        self.assertEqual(self.refused((128,)), 0)
        self.assertEqual(self.refused((128, 128)), 0)
        self.assertEqual(self.refused((5, 128, 1), at=1), 1)
        self.assertEqual(long_at((129, 128, 1)), (16385, 3))

    def test_no_last_byte(self):
        self.assertEqual(self.refused((129,)), 1)
        self.assertEqual(self.refused((255, 128)), 2)
        self.assertEqual(self.refused((1, 255, 255, 129), at=1), 4)

    def test_at_the_end(self):
        self.assertEqual(self.refused(()), 0)
        self.assertEqual(self.refused((1, 2), at=2), 2)
        self.assertEqual(long_at((1, 2), at=1), (2, 2))
        self.assertEqual(long_at(at=0, row=(1, 2)), (1, 1))

    def test_exactly_the_builtin_kinds(self):
        row = Row((Number(129), Number(1), Number(7)))
        told = [number_of(row), long_at(row, at=Number(2)), bytes_of(Number(5)), long_of(Number(500)), sum_of(row)]
        self.assertTrue(is_exact(told))


class Places(unittest.TestCase):
    def test_names_alone_behind_the_star(self):
        with self.assertRaises(TypeError):
            bytes_of(5, 2)
        with self.assertRaises(TypeError):
            long_at((5,), 0)


if __name__ == "__main__":
    unittest.main()
