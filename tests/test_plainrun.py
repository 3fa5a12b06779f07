"""[75], [76]: texts run by their rows alone, beside the runs of their images."""

import unittest

from byteround.assembling import assemble
from byteround.errors import Beyond, NoEntry, NoPlace, NotCode, TooGreat, Twice, Untold, Wrong
from byteround.linking import link
from byteround.machine import PILE, Machine, run
from byteround.plainrun import Plain, play
from byteround.shelves import taken
from byteround.words import words_of
from tests.anything import Number, Row, Rows, Text, anything, is_exact
from tests.chance import chance_programs


def text(*rows):
    return "\n".join(rows)


# Rows by their numbers: 4 point, 5 load, 6 out, 8 call, 9 in, 10 halt, 14 out, 15 back.
MAIN = text("part a", "told x", "code m 4", "point p d+1", "load a p", "out a", "x:", "call f", "in b", "halt",
            "data n 1", "bytes 7", "d:", "bytes 8 9", "held x", "held d+2", "held g", "room o 2", "leave 3", "r:", "leave 4", "soft s")
MAIN = MAIN.replace("told x", "told x\ntold d").replace("\nsoft s", "")
MORE = text("part b", "told f", "told g", "soft s", "code m 1", "f:", "row 70", "point q g", "g:", "row 0", "out c", "back", "go s")


class Told(unittest.TestCase):
    def test_steps(self):
        plain = Plain([MAIN, MORE], "x", (5,))
        self.assertEqual(plain.next_place(), (0, "m", 3))
        self.assertEqual(plain.registers(), {"a": 0, "b": 0, "c": 0, "d": 0, "p": None, "q": None})
        self.assertEqual((plain.pile(), plain.outputs(), plain.outcome(), plain.tally()), ([], [], None, {}))
        self.assertEqual(plain.go_on(), 1)
        self.assertEqual((plain.next_place(), plain.pile()), ((1, "m", 0), [(0, "m", 3)]))
        self.assertEqual(plain.go_on(many=2), 2)
        self.assertEqual(plain.registers()["q"], (1, "m", 1))
        self.assertEqual((plain.next_place(), plain.outputs()), ((1, "m", 2), [0]))
        self.assertEqual(plain.go_on(many=0), 0)
        self.assertEqual(plain.go_on(many=2), 2)
        self.assertEqual((plain.pile(), plain.registers()["b"]), ([], 5))
        self.assertIsNone(plain.outcome())
        self.assertEqual(plain.go_on(many=9), 1)
        self.assertEqual((plain.outcome(), plain.next_place(), plain.go_on()), (("halt", (0, 11)), None, 0))
        self.assertEqual(plain.tally(), {(0, "m", 3): 1, (1, "m", 0): 1, (1, "m", 1): 1, (1, "m", 2): 1, (0, "m", 4): 1, (0, "m", 5): 1})
        self.assertTrue(is_exact([plain.tally(), plain.registers(), plain.pile(), plain.outputs(), plain.outcome()]))

    def test_bytes_and_held_fields(self):
        plain = Plain([MAIN, MORE], "x")
        self.assertEqual([plain.byte_at((0, "n", at)) for at in range(3)], [7, 8, 9])
        self.assertEqual([plain.byte_at((0, "o", at)) for at in range(7)], [0] * 7)
        self.assertEqual(plain.held_at((0, "n", 3)), (0, "m", 3))
        self.assertEqual(plain.held_at((0, "n", 5)), (0, "n", 3))
        self.assertEqual(plain.held_at((0, "n", 7)), (1, "m", 1))

    def test_no_place(self):
        plain = Plain([MAIN, MORE], "x")
        places = [(0, "n", 9), (0, "n", -1), (0, "o", 7), (0, "m", 0), (0, "m", 3), (1, "m", 0), (1, "n", 0), (2, "n", 0), (-1, "n", 0),
                  (0, "z", 0), (False, "n", 0), (0, "n", False), (0, "n", True), [0, "n", 0], (0, "n"), (0, 1, 0), ("0", "n", 0),
                  (0, ["n"], 0), (0, "n", 0, 0), (0, "n", "0"), (0, "n", None), ([], "n", 0), (0, "n", (0,))]
        for place in places + anything() + [(0, "n", 3), (0, "n", 4), (0, "n", 5)]:
            with self.assertRaises(NoPlace, msg=place) as caught:
                plain.byte_at(place)
            self.assertEqual(caught.exception, NoPlace(place))
        for place in places + anything() + [(0, "n", 0), (0, "n", 4), (0, "o", 0)]:
            with self.assertRaises(NoPlace, msg=place) as caught:
                plain.held_at(place)
            self.assertEqual(caught.exception, NoPlace(place))
        self.assertEqual(plain.byte_at(Row((Number(0), Text("n"), Number(1)))), 8)

    def test_play(self):
        self.assertEqual(play([MAIN, MORE], "x", (5,)), ([0], "halt", (0, 11), 6))
        self.assertEqual(play((MAIN, MORE), "x", [5], most=3), ([0], "going", None, 3))
        self.assertEqual(play([MAIN, MORE], "x"), ([0], "dry", (0, 10), 4))
        self.assertEqual(play(inputs=(5,), entry="f", texts=(MORE, MAIN)), ([0], "pile", (0, 0), 2))
        self.assertEqual(play([MAIN, MORE], "g"), ([0], "pile", (1, 0), 1))
        self.assertEqual(play([MAIN, MORE.replace("point q g", "pop a")], "x"), ([], "sort", (1, 70), 1))
        self.assertEqual(play(Rows([MAIN, Text(MORE)]), Text("x"), Rows([Number(5)])), ([0], "halt", (0, 11), 6))
        self.assertTrue(is_exact(play(Rows([MAIN, Text(MORE)]), Text("x"), Rows([Number(5)]))))
        told = play([text("part a", "told x", "code m 1", "x:", "in a", "out a", "halt")], "x", Rows([Number(5)]))
        self.assertEqual(told, ([5], "halt", (0, 7), 3))
        self.assertTrue(is_exact(told))
        self.assertEqual(play([text("part a", "told x", "code m 1", "x:", "go x")], "x"), ([], "going", None, 1000))

    def test_no_steps(self):
        self.assertEqual(play([MAIN, MORE], "x", most=0), ([], "going", None, 0))
        plain = Plain([MAIN, MORE], "x")
        self.assertEqual((plain.go_on(many=0), plain.outcome(), plain.next_place()), (0, None, (0, "m", 3)))

    def test_what_is_told_may_be_changed_and_what_is_handed_in(self):
        texts, inputs = [MAIN, MORE], [5]
        plain = Plain(texts, "x", inputs)
        texts.clear()
        inputs.clear()
        plain.go_on(many=1)
        for told in (plain.pile(), plain.outputs(), plain.registers(), plain.tally()):
            told.clear()
        self.assertEqual((plain.pile(), len(plain.registers()), plain.tally()), ([(0, "m", 3)], 6, {(0, "m", 3): 1}))
        plain.go_on(many=9)
        self.assertEqual((plain.outputs(), plain.outcome()), ([0], ("halt", (0, 11))))
        plain.outputs().clear()
        self.assertEqual(plain.outputs(), [0])

    def test_parts_of_one_text_and_of_several(self):
        both = MAIN + "\n" + MORE
        self.assertEqual(play([both], "f"), ([0], "pile", (1, 0), 2))
        # Rows are numbered through the text.
        ahead = 1 + MAIN.count("\n")
        plain_rows = MORE.replace("row 0\n", "").replace("row 70\n", "")
        self.assertEqual(play([MAIN + "\n" + plain_rows], "f"), ([0], "pile", (1, ahead + 10), 2))
        self.assertEqual(play([MAIN, plain_rows], "f"), ([0], "pile", (1, 10), 2))
        other = text("note", "part z", "part y", "told h", "code m 1", "h:", "call f", "halt")
        self.assertEqual(play([other, both], "h"), ([0], "halt", (1, 8), 5))
        plain = Plain([other, both], "h")
        plain.go_on(many=1)
        self.assertEqual((plain.pile(), plain.next_place()), ([(1, "m", 0)], (3, "m", 0)))

    def test_rows_as_lines_tell_them(self):
        rows = ["part a", "told x", "code m 1", "x:", "row 5", "out a", "out a", "row 0", "out a", "row 60000", "out a", "row 5", "halt"]
        for many, row in ((0, 5), (1, 5), (2, 0), (3, 60000), (4, 5)):
            at = (5, 6, 8, 10, 12)[many]
            changed = rows[:at] + ["load a p"] + rows[at + 1:]
            self.assertEqual(play([text(*changed)], "x"), ([0] * many, "nowhere", (0, row), many))
        # A row ahead in another stretch, in data; none at all.
        self.assertEqual(play([text("part a", "told x", "data n 1", "row 9", "bytes 1", "code m 1", "x:", "halt")], "x"),
                         ([], "halt", (0, 8), 1))


class Refused(unittest.TestCase):
    def refused(self, refusal, texts, entry="x"):
        for function in (Plain, play):
            with self.assertRaises(type(refusal)) as caught:
                function(texts, entry)
            self.assertEqual(caught.exception, refusal)

    def test_as_texts(self):
        self.refused(Wrong(2, 1), [MAIN, text("part a", "told y", "halt")])
        self.refused(Wrong(0, 0), [MAIN, None])
        self.refused(Wrong(1, 0), [""])
        # Of two the first one's, ahead of all that link refuses.
        self.refused(Wrong(2, 1), [MAIN, text("part a", "told y"), "", MAIN])
        self.refused(Wrong(1, 0), [MAIN, "", text("part a", "told y"), MAIN])
        self.refused(Wrong(0, 0), (5, ""))

    def test_as_link_does(self):
        units = [assemble(MAIN), assemble(MORE)]
        self.assertTrue(link(units, "x"))
        self.refused(Twice("d", 0, 2), [MAIN, MORE, MAIN], "q")
        self.refused(Twice("f", 0, 1), (MORE, MORE), "f")
        self.refused(NoEntry("q"), [MAIN, MORE], "q")
        self.refused(NoEntry("d"), [MAIN, MORE], "d")
        self.refused(NoEntry("x"), [])
        self.refused(Untold("f", 0), [MAIN])
        self.refused(Untold("g", 1), [MORE.replace("told g\n", "").replace("g:\n", "").replace("point q g", "halt"), MAIN], "x")
        self.refused(NotCode("d", 1), [MAIN, MORE.replace("go s", "go d").replace("soft s\n", "")])
        self.refused(Beyond("d", 0), [MAIN.replace("d+1", "d+9"), MORE])
        # Of stretches, too, that are not come to.
        self.refused(Untold("z", 0), [text("part a", "told x", "code m 1", "x:", "halt", "data n 1", "held z")])

    def test_never_too_great(self):
        def rooms(letters):
            return [row for letter in letters for row in (f"room s{letter} 1", f"r{letter}:", "leave 4000")]
        points = [f"point p r{letter}" for letter in "abcdefghijk"]
        great = text("part a", "told x", "code m 1", "x:", *points, "store a p", "halt", *rooms("abcdef"),
                     "part b", *[f"told r{letter}" for letter in "ghijk"], *rooms("ghijk"))
        with self.assertRaises(TooGreat):
            link([assemble(great)], "x")
        self.assertEqual(play([great], "x"), ([], "halt", (0, 17), 13))


class Falls(unittest.TestCase):
    """Each fall of [14], by the places of a plain run."""

    def falls(self, how, *rows, done, inputs=(), place=None):
        """The last of the rows falls so, behind so many words."""
        program = text("part a", "told x", "soft zz", "code m 1", "x:", *rows, "halt", "point q zz", "data n 1", "d:", "bytes 7", "held x",
                       "held zz", "f:", "held d", "bytes 8", "room o 1", "r:", "leave 2", "code l 1", "l:", "set a 1", "e:", "set b 1")
        self.assertEqual(play([program], "x", inputs), ([], how, (0, 5 + len(rows)), done), rows)
        image = link([assemble(program)], "x", keep=())
        self.assertEqual(run(image, inputs)[1::2], (how, done))

    def test_nowhere(self):
        for row in ("go zz", "call zz", "callat p", "goat p", "load a p", "store a p", "walk p a", "turn q a", "take q p", "keep q p"):
            self.falls("nowhere", row, done=0)
        self.falls("nowhere", "set a 1", "if a zz", done=1)
        self.falls("nowhere", "point p zz", "load a p", done=1)
        # An if that doesn't lead away uses none.
        self.falls("nowhere", "if a zz", "load a p", done=1)

    def test_sort(self):
        for row in ("load a p", "store a p", "walk p a", "turn p a", "take q p", "keep q p"):
            self.falls("sort", "point p x", row, done=1)
        for row in ("load a p", "store a p", "goat p", "callat p"):
            self.falls("sort", "point p f", row, done=1)
            self.falls("sort", "point p d+1", "set.short a 1", row, done=2)
        for row in ("take q p", "keep q p", "goat p", "callat p"):
            self.falls("sort", "point p d", row, done=1)
            self.falls("sort", "point p f+1", row, done=1)
            self.falls("sort", "point p r", row, done=1)
        self.falls("sort", "push a", "back", done=1)
        # A call's place, that only back takes.
        for word in ("call y", "point q y\ncallat q"):
            program = text("part a", "told x", "code m 1", "x:", *word.split("\n"), "y:", "pop a", "halt")
            self.assertEqual(play([program], "x")[1], "sort")

    def test_pile(self):
        self.falls("pile", "back", done=0)
        self.falls("pile", "pop b", done=0)
        self.falls("pile", *["push a"] * (PILE + 1), done=PILE)
        program = text("part a", "told x", "code m 1", "x:", "call x", "halt")
        self.assertEqual(play([program], "x"), ([], "pile", (0, 5), PILE))
        program = text("part a", "told x", "code m 1", "x:", "point p x", "callat p", "halt")
        self.assertEqual(play([program], "x"), ([], "pile", (0, 6), 2 * PILE + 1))

    def test_dry(self):
        self.falls("dry", "in a", done=0)
        self.falls("dry", "in a", "in b", "in c", done=2, inputs=(3, 4))

    def test_off(self):
        self.falls("off", "point p d", "set a 9", "walk p a", done=2)
        self.falls("off", "point p d", "set a 1", "turn p a", done=2)
        self.falls("off", "point p r", "set a 2", "walk p a", done=2)
        for word in ("out a", "set a 1", "point p x", "call x", "if a x", "push b", "none a p"):
            program = text("part a", "told x", "code m 1", "x:", word, "code l 1", "halt")
            self.assertEqual(play([program], "x"), ([], "off", (0, 5), 0))
        # The end of a stretch is the end, whatever stands behind it in the text.
        program = text("part a", "told x", "code m 1", "x:", "go y", "code l 1", "y:", "set a 1", "out a")
        self.assertEqual(play([program], "x"), ([], "off", (0, 9), 2))


class Beside(unittest.TestCase):
    """[76]: the image's run, its places by its notes' names."""

    def setUp(self):
        self.endings = {}

    def places_of(self, image):
        """By each place of the image the plain run's one, of code those of words."""
        places = {None: None}
        for number, (begin, size, kind, _) in enumerate(image.stretches):
            part, _, name, _, _ = image.notes[number]
            offsets = range(size) if kind != "code" else [at for at, _ in words_of(image.data[begin:begin + size])]
            for k, at in enumerate(offsets):
                places[number, at] = (part, name, k)
        return places

    def rows_of(self, image, place):
        """The part's number and the row to which the place leads."""
        part, _, _, _, lines = image.notes[place[0]]
        return (part, [row for offset, row in lines if offset <= place[1]][-1])

    def beside(self, texts, entry, inputs, base, most):
        image = link([assemble(one) for one in texts], entry)
        places = self.places_of(image)
        machine, plain = Machine(image, inputs, base=base), Plain(texts, entry, inputs)
        for _ in range(most + 1):
            self.assertEqual(plain.next_place(), places[machine.next_place()])
            self.assertEqual(plain.registers(), {**machine.registers(), **{
                letter: places[machine.registers()[letter]] for letter in "pq"}})
            self.assertEqual(plain.pile(), [places[one] if isinstance(one, tuple) else one for one in machine.pile()])
            self.assertEqual(plain.outputs(), machine.outputs())
            if plain.go_on() != machine.go_on() or machine.outcome() is not None:
                break
        self.same_end(image, machine, plain, places)

    def same_end(self, image, machine, plain, places):
        outcome = machine.outcome()
        self.assertEqual(plain.outcome(), None if outcome is None else (outcome[0], self.rows_of(image, outcome[1])))
        self.assertEqual(plain.tally(), {places[place]: many for place, many in machine.tally().items()})
        for place, other in places.items():
            for mine, yours in ((machine.byte_at, plain.byte_at), (machine.held_at, plain.held_at)):
                try:
                    told = mine(place)
                except NoPlace:
                    with self.assertRaises(NoPlace):
                        yours(other)
                    continue
                self.assertEqual(yours(other), places[told] if mine == machine.held_at else told)
        how = "going" if outcome is None else outcome[0]
        self.endings[how] = self.endings.get(how, 0) + 1

    def test_step_by_step(self):
        for texts, entry in chance_programs(91, 120, parts=2):
            for inputs, base in (((), 16), ((3, 0, 400, 65535), 30000)):
                self.beside(texts, entry, inputs, base, 120)
        self.assertGreater(min(self.endings.get(how, 0) for how in ("halt", "going", "nowhere", "sort", "pile", "dry")), 3)

    def test_at_once(self):
        for texts, entry in chance_programs(92, 60, parts=3):
            image = link([assemble(one) for one in texts], entry)
            for inputs in ((), (1, 2, 3)):
                for most in (0, 1, 7, 300):
                    outputs, how, where, steps = run(image, inputs, most=most, base=500)
                    due = (outputs, how, None if where is None else self.rows_of(image, where), steps)
                    self.assertEqual(play(texts, entry, inputs, most=most), due)

    def test_of_taken_units(self):
        for texts, entry in chance_programs(93, 40, parts=3):
            units = [assemble(one) for one in texts]
            first = [k for k in range(3) if entry in units[k].parts[0].told + units[k].parts[0].weak][0]
            rest = [k for k in range(3) if k != first]
            shelves = [[units[k]] for k in rest]
            try:
                image = link(units[first:first + 1], entry, shelves=shelves)
            except Untold:
                # A weak name is on no shelf.
                continue
            order = [first] + [rest[shelf] for shelf, _, _, _ in taken(units[first:first + 1], entry, shelves=shelves)]
            outputs, how, where, steps = run(image, (1, 2), most=200)
            due = (outputs, how, None if where is None else self.rows_of(image, where), steps)
            self.assertEqual(play([texts[k] for k in order], entry, (1, 2), most=200), due)


if __name__ == "__main__":
    unittest.main()
