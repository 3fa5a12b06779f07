"""[13], [14], [15]: runs of images."""

import unittest

from byteround.errors import NoBase, NoPlace
from byteround.machine import LEAST_BASE, PILE, Machine, run
from tests.anything import Number, Rows, anything, is_exact
from tests.samples import code_image, image_of

A, B, C, D = range(4)
P, Q = range(2)
HALT, BACK = 0x00, 0x01


def out(n):
    return (0x04 + n,)


def read(n):
    return (0x08 + n,)


def push(n):
    return (0x0c + n,)


def pop(n):
    return (0x10 + n,)


def put(n, number):
    return (0x18 + n, number // 256, number % 256)


def copy(n, m):
    return (0x20 + 4 * n + m,)


def point(x):
    return (0x70 + x, 0, 0)


def walk(x, n):
    return (0x78 + 4 * x + n,)


def turn(x, n):
    return (0x80 + 4 * x + n,)


def load(n, x):
    return (0x88 + 4 * x + n,)


def store(n, x):
    return (0x90 + 4 * x + n,)


def same(n):
    return (0x98 + n,)


def move(x, y):
    return (0xa0 + 2 * x + y,)


def take(x, y):
    return (0xa4 + 2 * x + y,)


def keep(x, y):
    return (0xa8 + 2 * x + y,)


def callat(x):
    return (0xac + x,)


def goat(x):
    return (0xae + x,)


def none(n, x):
    return (0xb0 + 4 * x + n,)


GO, CALL = (0x61, 0, 0), (0x63, 0, 0)


def leap(n):
    return (0x68 + n, 0, 0)


def joined(*words):
    return tuple(byte for word in words for byte in (word if isinstance(word, tuple) else (word,)))


class Case(unittest.TestCase):
    def machine(self, *words, leads=(), inputs=(), data=(), room=0, held=(), **more):
        """A machine of such code, data, room. leads: targets of the code's full fields; held: (offset in data, target).

        A target is a spot, or (stretch, offset), or None.
        """
        row = joined(*words)
        begins = (0, len(row), len(row) + len(data))

        def spot(target):
            return begins[target[0]] + target[1] if isinstance(target, tuple) else target
        fields, at = [], 0
        while at < len(row):
            first = row[at]
            if first in (0x61, 0x63, 0x68, 0x69, 0x6a, 0x6b, 0x70, 0x71):
                fields.append(at + 1)
                at += 3
            else:
                at += 2 if 0x60 <= first < 0x68 or 0x14 <= first < 0x18 else 3 if 0x18 <= first < 0x1c else 1
        holds = [(at, spot(target)) for at, target in zip(fields, leads, strict=True)]
        holds += [(len(row) + at, spot(target)) for at, target in held]
        return Machine(code_image(*row, data=data, room=room, holds=holds), inputs, **more)

    def told(self, machine, many=1000):
        """The outputs and how it ended, behind at most so many steps."""
        machine.go_on(many=many)
        outcome = machine.outcome()
        return machine.outputs(), None if outcome is None else outcome[0]

    def says(self, outputs, *words, **more):
        machine = self.machine(*words, HALT, **more)
        self.assertEqual(self.told(machine), (outputs, "halt"), words)
        return machine

    def falls(self, fall, *words, done=None, **more):
        """The last of the words falls so, and nothing is done by it. done: how many words are done ahead."""
        machine = self.machine(*words, **more)
        steps = machine.go_on(many=1000)
        how, where = machine.outcome()
        self.assertEqual(how, fall, words)
        if done is not None:
            self.assertEqual(steps, done)
        # A twin that does one step less than there are tries: all is as it was.
        twin = self.machine(*words, **more)
        twin.go_on(many=steps)
        self.assertIsNone(twin.outcome())
        self.assertEqual(twin.next_place(), where)
        self.assertIsNone(machine.next_place())
        for ask in ("registers", "pile", "outputs", "tally"):
            self.assertEqual(getattr(machine, ask)(), getattr(twin, ask)(), (words, ask))
        self.assertEqual(memory(machine), memory(twin))
        return machine


def memory(machine):
    found = {}
    for stretch in range(4):
        for offset in range(40):
            for ask in (machine.byte_at, machine.held_at):
                try:
                    found[stretch, offset] = ask((stretch, offset))
                except NoPlace:
                    pass
    return found


class Words(Case):
    def test_at_first(self):
        machine = self.machine(HALT, inputs=(1, 2))
        self.assertEqual(machine.registers(), {"a": 0, "b": 0, "c": 0, "d": 0, "p": None, "q": None})
        self.assertEqual((machine.pile(), machine.outputs(), machine.tally()), ([], [], {}))
        self.assertEqual(machine.next_place(), (0, 0))
        self.assertIsNone(machine.outcome())

    def test_it_begins_at_the_entry(self):
        image = image_of(("data", 1, (5,)), ("code", 4, joined(put(A, 7), out(A), put(A, 8), out(A), HALT)), entry=8)
        machine = Machine(image)
        self.assertEqual(machine.next_place(), (1, 4))
        self.assertEqual(self.told(machine), ([8], "halt"))

    def test_out_set_copy(self):
        for n in range(4):
            self.says([0, 65535, 7], out(n), put(n, 65535), out(n), (0x14 + n, 7), out(n))
            for m in range(4):
                words = [put(k, 10 + k) for k in range(4)] + [copy(n, m)] + [out(k) for k in range(4)]
                expected = [10, 11, 12, 13]
                expected[n] = 10 + m
                self.says(expected, *words)

    def test_in(self):
        self.says([5, 65535, 0, 9], *[word for n in range(4) for word in (read(n), out(n))], inputs=(5, 65535, 0, 9))
        machine = self.machine(read(A), read(A), HALT, inputs=(1, 2, 3))
        machine.go_on(many=3)
        self.assertEqual(machine.registers()["a"], 2)

    def test_push_pop(self):
        words = [put(n, n + 1) for n in range(4)] + [push(n) for n in range(4)] + [pop(n) for n in range(4)]
        self.says([4, 3, 2, 1], *words, *[out(n) for n in range(4)])
        machine = self.machine(put(A, 3), push(A), put(A, 4), push(A), HALT)
        machine.go_on(many=4)
        self.assertEqual(machine.pile(), [3, 4])

    def test_add_less_times(self):
        def reckoned(first, x, y, n, m):
            words = [put(n, x)] if n == m else [put(n, x), put(m, y)]
            machine = self.machine(*words, (first + 4 * n + m,), HALT)
            machine.go_on(many=3)
            return machine.registers()["abcd"[n]]
        numbers = (0, 1, 2, 255, 256, 257, 32768, 65534, 65535)
        for n in range(4):
            for m in range(4):
                for x in numbers:
                    for y in [x] if n == m else numbers:
                        self.assertEqual(reckoned(0x30, x, y, n, m), (x + y) % 65536)
                        self.assertEqual(reckoned(0x40, x, y, n, m), (x - y) % 65536)
                        self.assertEqual(reckoned(0x50, x, y, n, m), x * y % 65536)

    def test_go(self):
        self.says([7], GO, out(A), put(A, 7), out(A), leads=(4,))
        self.says([7], (0x60, 1), out(A), put(A, 7), out(A))
        # Back: halt at 2, go on at 3.
        machine = self.machine((0x60, 1), HALT, (0x60, 0xfd))
        self.assertEqual(machine.go_on(many=9), 3)
        self.assertEqual(machine.outcome(), ("halt", (0, 2)))

    def test_if(self):
        for n in range(4):
            for number in (0, 1, 256, 65535):
                expected = [number, 5] if number == 0 else [5]
                tail = (out(n), put(n, 5), out(n))
                self.says(expected, put(n, number), leap(n), *tail, leads=(7,))
                self.says(expected, put(n, number), (0x64 + n, 1), *tail)

    def test_call_and_back(self):
        for call, leads in ((CALL, (8,)), ((0x62, 5), ())):
            words = [call, put(A, 9), out(A), HALT, put(A, 7), out(A), BACK]
            if call == CALL:
                words = [call, put(A, 9), out(A), HALT, put(A, 7), out(A), BACK]
            machine = self.machine(*words, leads=leads)
            machine.go_on(many=2)
            self.assertEqual(machine.pile(), [(0, 0)])
            self.assertEqual(self.told(machine), ([7, 9], "halt"))
            self.assertEqual(machine.pile(), [])

    def test_calls_within_calls(self):
        # main: call one, halt. one: call two, out a, back. two: set a, back.
        machine = self.machine(CALL, HALT, CALL, out(A), BACK, put(A, 3), BACK, leads=(4, 9))
        machine.go_on(many=3)
        self.assertEqual(machine.pile(), [(0, 0), (0, 4)])
        self.assertEqual(self.told(machine), ([3], "halt"))

    def test_call_over_stretches(self):
        image = image_of(
            ("code", 1, joined(CALL, out(A), HALT)), ("code", 16, joined(put(A, 6), BACK)), holds=((1, 16),))
        machine = Machine(image)
        machine.go_on()
        self.assertEqual((machine.next_place(), machine.pile()), ((1, 0), [(0, 0)]))
        self.assertEqual(self.told(machine), ([6], "halt"))

    def test_point_move_same_none(self):
        for target in (None, (0, 0), (1, 2), (2, 4)):
            machine = self.machine(point(P), point(Q), HALT, leads=(target, None), data=(1, 2, 3), room=5)
            machine.go_on(many=3)
            self.assertEqual((machine.registers()["p"], machine.registers()["q"]), (target, None))
        pairs = (((1, 0), (1, 0), 1), ((1, 0), (1, 1), 0), ((1, 0), (2, 0), 0), (None, None, 1), (None, (1, 0), 0))
        for n in range(4):
            for one, other, expected in pairs:
                self.says([expected], point(P), point(Q), same(n), out(n), leads=(one, other), data=(1, 2), room=2)
                self.says([expected], point(Q), point(P), same(n), out(n), leads=(one, other), data=(1, 2), room=2)
            self.says([1, 0], none(n, P), out(n), point(P), none(n, P), out(n), leads=((1, 0),), data=(1,))
            self.says([1, 0], none(n, Q), out(n), point(Q), none(n, Q), out(n), leads=((1, 0),), data=(1,))
        for x in (P, Q):
            for y in (P, Q):
                machine = self.machine(point(P), point(Q), move(x, y), HALT, leads=((1, 0), (1, 1)), data=(1, 2))
                machine.go_on(many=3)
                expected = {"p": (1, 0), "q": (1, 1)}
                expected["pq"[x]] = (1, y)
                self.assertEqual({x: machine.registers()[x] for x in "pq"}, expected)
        machine = self.machine(point(P), point(Q), move(P, Q), HALT, leads=((1, 0), None), data=(1, 2))
        machine.go_on(many=3)
        self.assertIsNone(machine.registers()["p"])

    def test_walk_turn(self):
        for x in (P, Q):
            for n in range(4):
                machine = self.machine(
                    put(n, 3), point(x), walk(x, n), turn(x, n), HALT, leads=((1, 1),), data=(1, 2, 3, 4, 5))
                machine.go_on(many=3)
                self.assertEqual(machine.registers()["pq"[x]], (1, 4))
                machine.go_on()
                self.assertEqual(machine.registers()["pq"[x]], (1, 1))
                room = self.machine(put(n, 299), point(x), walk(x, n), HALT, leads=((2, 0),), data=(1,), room=300)
                room.go_on(many=3)
                self.assertEqual(room.registers()["pq"[x]], (2, 299))
        # A walk may lead to a held byte, of a field's both, and from there.
        machine = self.machine(
            put(A, 1), point(P), walk(P, A), walk(P, A), walk(P, A), HALT, leads=((1, 0),), data=(1, 0, 0, 2),
            held=((1, None),))
        machine.go_on(many=5)
        self.assertEqual(machine.registers()["p"], (1, 3))

    def test_load_store(self):
        for x in (P, Q):
            for n in range(4):
                self.says([200], point(x), load(n, x), out(n), leads=((1, 1),), data=(1, 200, 3))
                self.says([0], put(n, 5), point(x), load(n, x), out(n), leads=((2, 1),), data=(1,), room=2)
                for number in (0, 255, 256, 257, 65535):
                    machine = self.machine(
                        put(n, number), point(x), store(n, x), HALT, leads=((2, 1),), data=(1, 2), room=2)
                    machine.go_on(many=3)
                    self.assertEqual(machine.byte_at((2, 1)), number % 256)
                    self.assertEqual(machine.byte_at((2, 0)), 0)
                    self.assertEqual(machine.registers()["abcd"[n]], number)
        self.says([44], put(A, 300), point(P), store(A, P), load(B, P), out(B), leads=((1, 0),), data=(9,))

    def test_take_keep(self):
        for x in (P, Q):
            other = 1 - x
            for target in (None, (0, 0), (1, 3), (2, 0)):
                machine = self.machine(
                    point(other), take(x, other), HALT, leads=((1, 0),), data=(0, 0, 5, 6), room=1, held=((0, target),))
                self.assertEqual(machine.held_at((1, 0)), target)
                machine.go_on(many=2)
                self.assertEqual(machine.registers()["pq"[x]], target)
                self.assertEqual(machine.registers()["pq"[other]], (1, 0))
                machine = self.machine(
                    point(x), point(other), keep(x, other), HALT, leads=(target, (1, 0)), data=(0, 0, 5, 6), room=1,
                    held=((0, (1, 2)),))
                machine.go_on(many=3)
                self.assertEqual(machine.held_at((1, 0)), target)
            machine = self.machine(point(x), keep(x, x), take(x, x), HALT, leads=((1, 0),), data=(0, 0), held=((0, None),))
            machine.go_on(many=3)
            self.assertEqual(machine.held_at((1, 0)), (1, 0))
            self.assertEqual(machine.registers()["pq"[x]], (1, 0))

    def test_goat_callat(self):
        for x in (P, Q):
            machine = self.machine(point(x), goat(x), HALT, put(A, 4), out(A), HALT, leads=(5,))
            self.assertEqual(self.told(machine), ([4], "halt"))
            machine = self.machine(point(x), callat(x), out(A), HALT, put(A, 4), BACK, leads=(6,))
            machine.go_on(many=2)
            self.assertEqual(machine.pile(), [(0, 3)])
            self.assertEqual(self.told(machine), ([4], "halt"))

    def test_a_loop(self):
        # One number after another is told, down from the first input.
        words = (read(A), put(B, 1), out(A), (0x40 + 1,), leap(A), HALT)
        machine = self.machine(*words, leads=(4,), inputs=(5,))
        self.assertEqual(self.told(machine), ([5, 4, 3, 2, 1], "halt"))

    def test_a_table_of_code_in_data(self):
        machine = self.machine(
            point(P), take(Q, P), callat(Q), HALT, put(A, 8), out(A), BACK, leads=((1, 0),), data=(0, 0),
            held=((0, (0, 6)),))
        self.assertEqual(self.told(machine), ([8], "halt"))


class Falls(Case):
    def test_nowhere(self):
        self.falls("nowhere", GO, HALT, leads=(None,), done=0)
        self.falls("nowhere", CALL, HALT, leads=(None,), done=0)
        for n in range(4):
            self.falls("nowhere", put(n, 1), leap(n), HALT, leads=(None,), done=1)
            machine = self.machine(leap(n), HALT, leads=(None,))
            self.assertEqual(self.told(machine), ([], "halt"))
        for x in (P, Q):
            for word in (callat(x), goat(x), load(A, x), store(A, x), walk(x, A), turn(x, A), take(x, x), keep(x, x),
                         take(1 - x, x), keep(1 - x, x)):
                self.falls("nowhere", word, HALT, done=0)
        # A keep puts nowhere, a take of another register doesn't look at its own.
        self.says([], point(P), keep(Q, P), take(Q, P), leads=((1, 0),), data=(0, 0), held=((0, (1, 0)),))
        # A point of none, and a move, are no use of nowhere.
        self.says([], point(P), move(P, Q), same(A), none(A, P), leads=(None,))

    def test_sort_of_places(self):
        data, held = (1, 0, 0, 2), ((1, (1, 0)),)
        for x in (P, Q):
            for target, fits in (((0, 0), False), ((1, 0), True), ((1, 1), False), ((1, 2), False), ((2, 0), True)):
                for word in (load(A, x), store(A, x)):
                    told = self.machine(point(x), word, HALT, leads=(target,), data=data, held=held, room=1)
                    self.assertEqual(self.told(told), ([], "halt" if fits else "sort"), (target, word))
                    if not fits:
                        self.falls("sort", point(x), word, HALT, leads=(target,), data=data, held=held, room=1, done=1)
                word_fits = target == (1, 1)
                for word in (take(x, x), keep(x, x)):
                    told = self.machine(point(x), word, HALT, leads=(target,), data=data, held=held, room=1)
                    self.assertEqual(self.told(told), ([], "halt" if word_fits else "sort"), (target, word))
                word_fits = target[0] > 0
                for word in (walk(x, A), turn(x, A)):
                    told = self.machine(point(x), word, HALT, leads=(target,), data=data, held=held, room=1)
                    self.assertEqual(self.told(told), ([], "halt" if word_fits else "sort"), (target, word))
            for target in ((1, 0), (1, 1), (1, 2), (1, 3), (2, 0)):
                for word in (goat(x), callat(x)):
                    self.falls("sort", point(x), word, HALT, leads=(target,), data=data, held=held, room=1, done=1)

    def test_a_field_that_code_holds_is_code(self):
        for word in (take(P, P), keep(P, P), load(A, P), store(A, P), walk(P, A), turn(P, A)):
            self.falls("sort", point(P), word, HALT, leads=((0, 0),), done=1)

    def test_sort_of_what_is_piled(self):
        self.falls("sort", CALL, HALT, pop(A), HALT, leads=(4,), done=1)
        self.falls("sort", put(A, 5), push(A), BACK, done=2)
        self.falls("sort", push(A), CALL, HALT, pop(A), pop(A), HALT, leads=(5,), done=2)
        self.falls("sort", CALL, HALT, push(A), BACK, leads=(4,), done=2)

    def test_pile(self):
        self.assertEqual(PILE, 32)
        pushes = (push(A),) * 32
        self.says([], *pushes)
        self.falls("pile", *pushes, push(A), HALT, done=32)
        self.falls("pile", *pushes, CALL, HALT, leads=(0,), done=32)
        self.falls("pile", *pushes, (0x62, 0), HALT, done=32)
        self.falls("pile", *pushes, point(P), callat(P), HALT, leads=(0,), done=33)
        self.says([], *pushes[1:], CALL, leads=(34,))
        self.falls("pile", pop(A), HALT, done=0)
        self.falls("pile", BACK, done=0)
        self.falls("pile", push(A), pop(A), pop(A), HALT, done=2)
        # Calls fill it too.
        machine = self.falls("pile", CALL, HALT, leads=(0,), done=32)
        self.assertEqual(machine.pile(), [(0, 0)] * 32)

    def test_dry(self):
        self.falls("dry", read(A), HALT, done=0)
        self.falls("dry", read(A), read(B), read(A), HALT, inputs=(1, 2), done=2)
        self.says([], read(A), read(B), inputs=(1, 2))

    def test_off_by_places(self):
        for stretch, size in ((1, 4), (2, 6)):
            for x in (P, Q):
                for at in range(size):
                    for far in (0, 1, size - 1, size, 65535):
                        words = (put(A, far), point(x), walk(x, A), HALT)
                        told = self.machine(*words, leads=((stretch, at),), data=(1, 2, 3, 4), room=6)
                        fits = at + far < size
                        self.assertEqual(self.told(told), ([], "halt" if fits else "off"))
                        words = (put(A, far), point(x), turn(x, A), HALT)
                        told = self.machine(*words, leads=((stretch, at),), data=(1, 2, 3, 4), room=6)
                        self.assertEqual(self.told(told), ([], "halt" if at - far >= 0 else "off"))
        self.falls("off", put(A, 1), point(P), walk(P, A), HALT, leads=((1, 0),), data=(1,), done=2)
        self.falls("off", put(A, 1), point(P), turn(P, A), HALT, leads=((1, 0),), data=(1,), done=2)

    def test_off_behind_the_last_word(self):
        data, held = (0, 0, 1), ((0, None),)
        last = [
            (out(A), (), ()), (read(A), (), (1,)), (push(A), (), ()), (put(A, 7), (), ()), ((0x14, 7), (), ()),
            (copy(A, B), (), ()), (0x31, (), ()), (0x41, (), ()), (0x51, (), ()), (CALL, (0,), ()), ((0x62, 0xfe), (), ()),
            ((0x64, 0xfe), (), ()), (leap(A), (0,), ()), (leap(A), (None,), ()), (point(P), ((1, 0),), ()), (same(A), (), ()),
            (move(P, Q), (), ()), (none(A, P), (), ())]
        for word, leads, inputs in last:
            self.falls("off", word, leads=leads, inputs=inputs, data=data, held=held, done=0)
        for word, target in ((walk(P, A), (1, 2)), (turn(P, A), (1, 2)), (load(A, P), (1, 2)), (store(A, P), (1, 2)),
                             (take(P, P), (1, 0)), (keep(P, P), (1, 0)), (callat(P), (0, 0))):
            self.falls("off", point(P), word, leads=(target,), data=data, held=held, done=1)
        self.falls("off", push(A), pop(A), done=1)

    def test_not_off_behind_the_last_word(self):
        self.assertEqual(self.told(self.machine(HALT)), ([], "halt"))
        for words, leads in (((GO,), (0,)), (((0x60, 0xfe),), ()), ((put(A, 1), leap(A)), (0,)),
                             ((put(A, 1), (0x64, 0xfe)), ()), ((point(P), goat(P)), (0,))):
            machine = self.machine(*words, leads=leads)
            self.assertEqual(machine.go_on(many=50), 50)
            self.assertIsNone(machine.outcome())
        machine = self.machine(CALL, HALT, BACK, leads=(4,))
        self.assertEqual(self.told(machine), ([], "halt"))

    def test_the_last_word_of_a_stretch_ahead_of_another_one(self):
        image = image_of(("code", 1, out(A)), ("code", 1, (HALT,)))
        self.assertEqual(run(image), ([], "off", (0, 0), 0))

    def test_two_at_once(self):
        self.falls("nowhere", CALL, leads=(None,), done=0)
        self.falls("nowhere", *(push(A),) * 32, CALL, leads=(None,), done=32)
        self.falls("nowhere", *(push(A),) * 32, callat(P), done=32)
        self.falls("nowhere", load(A, P), done=0)
        self.falls("nowhere", walk(P, A), done=0)
        self.falls("nowhere", put(A, 1), leap(A), leads=(None,), done=1)
        self.falls("sort", *(push(A),) * 32, point(P), callat(P), HALT, leads=((1, 0),), data=(1,), done=33)
        self.falls("sort", point(P), store(A, P), leads=((0, 0),), done=1)
        self.falls("sort", put(A, 9), point(P), walk(P, A), HALT, leads=((0, 0),), done=2)
        self.falls("sort", CALL, HALT, pop(A), leads=(4,), done=1)
        self.falls("pile", pop(A), done=0)
        self.falls("pile", *(push(A),) * 32, push(A), done=32)
        self.falls("pile", *(push(A),) * 32, CALL, leads=(0,), done=32)
        self.falls("dry", read(A), done=0)


class Runs(Case):
    def image(self):
        return code_image(*joined(put(A, 5), out(A), out(A), HALT))

    def test_a_run(self):
        self.assertEqual(run(self.image()), ([5, 5], "halt", (0, 5), 4))
        self.assertEqual(run(image=self.image(), inputs=[], most=1000, base=16), ([5, 5], "halt", (0, 5), 4))
        self.assertEqual(run(code_image(*joined(read(B), out(B), read(B), HALT)), [9]), ([9], "dry", (0, 2), 2))

    def test_bounds_of_steps(self):
        self.assertEqual(run(self.image(), most=0), ([], "going", None, 0))
        self.assertEqual(run(self.image(), most=1), ([], "going", None, 1))
        self.assertEqual(run(self.image(), most=3), ([5, 5], "going", None, 3))
        self.assertEqual(run(self.image(), most=4), ([5, 5], "halt", (0, 5), 4))
        self.assertEqual(run(self.image(), most=5), ([5, 5], "halt", (0, 5), 4))
        falling = code_image(*joined(out(A), out(A)))
        self.assertEqual(run(falling, most=0), ([], "going", None, 0))
        self.assertEqual(run(falling, most=1), ([0], "going", None, 1))
        self.assertEqual(run(falling, most=2), ([0], "off", (0, 1), 1))

    def test_a_thousand_steps_where_no_bound_is_told(self):
        ring = code_image(0x60, 0xfe)
        self.assertEqual(run(ring), ([], "going", None, 1000))
        self.assertEqual(run(ring, most=2000), ([], "going", None, 2000))

    def test_by_whatever_base(self):
        image = image_of(
            ("code", 1, joined(point(P), load(A, P), out(A), take(Q, P), HALT)), ("data", 2, (0, 0, 7)),
            holds=((1, 10), (8, 8)))
        for base in (16, 17, 255, 256, 30000, 60000):
            self.assertEqual(run(image, base=base), ([7], "sort", (0, 5), 3))
            machine = Machine(image, base=base)
            self.assertEqual(machine.go_on(many=9), 3)
            self.assertEqual(machine.held_at((1, 0)), (1, 0))
            self.assertEqual(machine.registers()["p"], (1, 2))

    def test_no_bases(self):
        self.assertEqual(LEAST_BASE, 16)
        for thing in anything() + [15, 0, -16, 60001, 65535]:
            if type(thing) is int and 16 <= thing <= 60000:
                continue
            for call in (run, Machine):
                with self.assertRaises(NoBase) as caught:
                    call(self.image(), base=thing)
                self.assertEqual(caught.exception, NoBase(thing))
        run(self.image(), base=16)
        run(self.image(), base=60000)

    def test_the_end_of_the_image(self):
        for more in (0, 1):
            image = image_of(("code", 1, (HALT,)), ("room", 1, 4000), ("room", 1, 1535 + more))
            self.assertEqual(run(image, base=59999), ([], "halt", (0, 0), 1))
            if more:
                with self.assertRaises(NoBase) as caught:
                    run(image, base=60000)
                self.assertEqual(caught.exception.base, 60000)
            else:
                self.assertEqual(run(image, base=60000), ([], "halt", (0, 0), 1))


class StepByStep(Case):
    def test_go_on(self):
        machine = self.machine(put(A, 5), out(A), out(A), HALT)
        self.assertEqual(machine.go_on(many=0), 0)
        self.assertEqual(machine.next_place(), (0, 0))
        self.assertEqual(machine.go_on(), 1)
        self.assertEqual((machine.next_place(), machine.outputs()), ((0, 3), []))
        self.assertEqual(machine.go_on(many=2), 2)
        self.assertEqual((machine.next_place(), machine.outcome()), ((0, 5), None))
        self.assertEqual(machine.go_on(many=5), 1)
        self.assertEqual((machine.next_place(), machine.outcome()), (None, ("halt", (0, 5))))
        self.assertEqual(machine.go_on(many=5), 0)
        self.assertEqual(machine.outcome(), ("halt", (0, 5)))

    def test_a_fall_ends_it_when_it_is_tried(self):
        machine = self.machine(out(A), BACK)
        self.assertEqual(machine.go_on(many=1), 1)
        self.assertEqual((machine.next_place(), machine.outcome()), ((0, 1), None))
        self.assertEqual(machine.go_on(many=0), 0)
        self.assertIsNone(machine.outcome())
        self.assertEqual(machine.go_on(many=1), 0)
        self.assertEqual((machine.next_place(), machine.outcome()), (None, ("pile", (0, 1))))
        self.assertEqual(machine.go_on(many=9), 0)
        self.assertEqual(machine.tally(), {(0, 0): 1})

    def test_tally(self):
        machine = self.machine(read(A), put(B, 1), (0x41,), leap(A), HALT, out(A), leads=(4,), inputs=(3,))
        self.assertEqual(machine.tally(), {})
        machine.go_on(many=1000)
        self.assertEqual(machine.tally(), {(0, 0): 1, (0, 1): 1, (0, 4): 3, (0, 5): 3, (0, 8): 1})

    def test_what_is_told_may_be_changed(self):
        inputs = [5, 6]
        machine = self.machine(push(A), read(A), out(A), read(A), out(A), HALT, inputs=inputs)
        inputs[0] = 9
        inputs.clear()
        machine.go_on(many=3)
        for ask, change in ((machine.pile, lambda told: told.append(1)), (machine.outputs, lambda told: told.clear()),
                            (machine.registers, lambda told: told.clear()), (machine.tally, lambda told: told.clear())):
            before = ask()
            change(ask())
            self.assertEqual(ask(), before)
        told = machine.outputs()
        machine.go_on(many=2)
        self.assertEqual((told, machine.outputs()), ([5], [5, 6]))
        outputs = run(code_image(*joined(out(A), HALT)))[0]
        outputs.append(4)
        self.assertEqual(run(code_image(*joined(out(A), HALT)))[0], [0])

    def test_machines_of_one_image_are_apart(self):
        image = image_of(
            ("code", 1, joined(put(A, 3), point(P), store(A, P), HALT)), ("data", 1, (1,)), holds=((4, 8),))
        one, other = Machine(image), Machine(image)
        one.go_on(many=3)
        self.assertEqual((one.byte_at((1, 0)), other.byte_at((1, 0))), (3, 1))
        self.assertEqual(Machine(image).byte_at((1, 0)), 1)

    def test_exactly_the_builtin_kinds(self):
        image = image_of(
            ("code", 1, joined(read(A), out(A), push(A), point(P), store(A, P), CALL, HALT)), ("data", 1, (1, 0, 0)),
            holds=((4, 11), (8, 10), (12, 12)))
        machine = Machine(image, Rows([Number(300)]), base=Number(20))
        self.assertIs(type(machine.go_on(many=Number(6))), int)
        self.assertTrue(is_exact([
            machine.registers(), machine.pile(), machine.outputs(), machine.next_place(), machine.tally(),
            machine.byte_at((1, 0)), machine.held_at((1, 1))]))
        self.assertEqual(machine.pile(), [300, (0, 7)])
        self.assertTrue(is_exact(run(image, (Number(1),), most=Number(30))))


class Places(Case):
    def machine_told(self):
        return self.machine(
            point(P), HALT, leads=(None,), data=(1, 0, 0, 0, 0, 6), held=((1, (1, 5)), (3, None)), room=3)

    def not_place(self, ask, thing):
        with self.assertRaises(NoPlace, msg=thing) as caught:
            ask(thing)
        self.assertEqual(caught.exception, NoPlace(thing))

    def test_bytes(self):
        machine = self.machine_told()
        told = {(1, 0): 1, (1, 5): 6, (2, 0): 0, (2, 1): 0, (2, 2): 0}
        for stretch in range(-4, 5):
            for offset in range(-7, 9):
                if (stretch, offset) in told:
                    self.assertEqual(machine.byte_at((stretch, offset)), told[stretch, offset])
                else:
                    self.not_place(machine.byte_at, (stretch, offset))

    def test_held_fields(self):
        machine = self.machine_told()
        told = {(1, 1): (1, 5), (1, 3): None}
        for stretch in range(-4, 5):
            for offset in range(-7, 9):
                if (stretch, offset) in told:
                    self.assertEqual(machine.held_at((stretch, offset)), told[stretch, offset])
                else:
                    self.not_place(machine.held_at, (stretch, offset))

    def test_of_anything(self):
        machine = self.machine_told()
        for thing in anything() + [[1, 0], (1, 0, 0), (True, 0), (1, False), (1, "0"), (1,), (1, None), ((1, 0),)]:
            self.not_place(machine.byte_at, thing)
            self.not_place(machine.held_at, thing)
        self.not_place(machine.held_at, (True, 1))
        self.not_place(machine.held_at, [1, 1])
        self.not_place(machine.held_at, (1, True))


if __name__ == "__main__":
    unittest.main()
