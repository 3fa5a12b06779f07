"""The machine: a run of an image, at once or step by step."""

from byteround.errors import NoBase, NoPlace
from byteround.kinds import copied, is_between, is_tuple_of, is_whole
from byteround.layout import near_target, place_at
from byteround.running import Memory, RunState, RunWord
from byteround.worddeeds import do_steps
from byteround.words import words_of
from byteround.wordtable import hold_form, width_of

PILE = 32
LEAST_BASE = 16
GREATEST_BASE = 60000
GREATEST_END = 65536


def is_base(thing, size):
    """Whether an image of so many bytes can be put at the thing."""
    return is_between(thing, LEAST_BASE, GREATEST_BASE) and thing + size <= GREATEST_END


class Machine:
    """A run of an image, put at a base, on inputs."""

    def __init__(self, image, inputs=(), *, base=LEAST_BASE):
        # Nothing that is told hangs on the base: places are stretches and offsets.
        if not is_base(base, len(image)):
            raise NoBase(base)
        entry = place_at(image.stretches, image.entry)
        self.state = RunState(words_to_run(image), memory_of(image), entry, copied(inputs), PILE)

    def go_on(self, *, many=1):
        """Does at most so many words, and tells how many were done."""
        return do_steps(self.state, many)

    def next_place(self):
        """The place of the next word, None at the end."""
        return self.state.at

    def registers(self):
        """What each register has, by its letter."""
        return self.state.all_registers()

    def pile(self):
        """What is on the pile, the last put on last."""
        return list(self.state.piled)

    def outputs(self):
        """The numbers told so far."""
        return list(self.state.said)

    def outcome(self):
        """How the run ended, and at which place; None while it goes on."""
        return self.state.ending

    def byte_at(self, place):
        """The byte there, of data or a room, that isn't held, or NoPlace."""
        if not is_place(place) or not self.state.memory.has_byte(place):
            raise NoPlace(place)
        return self.state.memory.byte(place)

    def held_at(self, place):
        """What the field holds whose first byte is there, or NoPlace."""
        if not is_place(place) or not self.state.memory.has_field(place):
            raise NoPlace(place)
        return self.state.memory.held(place)

    def tally(self):
        """By the place of each word that was done how often."""
        return {place: self.state.counts[place] for place in self.state.counts}


def is_place(thing):
    """Whether the thing is a number of a stretch and an offset, whether there is such or not."""
    return is_tuple_of(thing, 2) and all([is_whole(number) for number in thing])


def words_to_run(image):
    """By its place each word of the image."""
    targets = {at: None if target is None else place_at(image.stretches, target) for at, target in image.holds}
    words = {}
    for number, (begin, size, kind, _) in enumerate(image.stretches):
        if kind == "code":
            for at, word in words_of(image.data[begin:begin + size]):
                words[(number, at)] = word_to_run(number, at, size, word, targets.get(begin + at + 1))
    return words


def word_to_run(stretch, at, size, word, held):
    """The word at this offset of the stretch; held is what its full field leads to, if it has one."""
    name, letters, number = word
    plain, _, _ = name.partition(".")
    target = held if hold_form(name) == "full" else None
    if hold_form(name) == "near":
        target = (stretch, near_target(at, word))
    behind = at + width_of(name)
    return RunWord(plain, letters, number, target, (stretch, behind) if behind < size else None)


def memory_of(image):
    """The image's data and rooms, as they are at first."""
    memory = Memory()
    for number, (begin, size, kind, _) in enumerate(image.stretches):
        if kind == "data":
            memory.lay((number,), image.data[begin:begin + size])
        if kind == "room":
            memory.lay((number,), (0,) * size)
    for at, target in image.holds:
        place = place_at(image.stretches, at)
        if memory.has(place):
            memory.hold(place, None if target is None else place_at(image.stretches, target))
    return memory


def run(image, inputs=(), *, base=LEAST_BASE, most=1000):
    """A run of at most so many steps: (outputs, how, where, steps)."""
    return run_through(Machine(image, inputs, base=base), most)


def run_through(machine, most):
    """What a Machine or a Plain comes to by at most so many steps: (outputs, how, where, steps)."""
    steps = machine.go_on(many=most)
    ending = machine.outcome()
    how, where = ("going", None) if ending is None else ending
    return (machine.outputs(), how, where, steps)
