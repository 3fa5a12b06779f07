"""The plain run: texts run by their rows alone."""

from byteround.errors import NoPlace
from byteround.kinds import copied, is_tuple_of, is_whole
from byteround.machine import PILE, run_through
from byteround.plainprogram import PlainProgram
from byteround.running import RunState
from byteround.worddeeds import do_steps


class Plain:
    """A run of texts on inputs."""

    def __init__(self, texts, entry, inputs=()):
        program = PlainProgram(texts, entry)
        self.rows = program.rows
        self.state = RunState(program.words, program.memory, program.entry, copied(inputs), PILE)

    def go_on(self, *, many=1):
        """Does at most so many words, and tells how many were done."""
        return do_steps(self.state, many)

    def next_place(self):
        """The place of the next word, None at the end."""
        return self.state.at

    def registers(self):
        """What each register has, by its letter."""
        return self.state.all_registers()

    def pile(self):
        """What is on the pile, the last put on last."""
        return list(self.state.piled)

    def outputs(self):
        """The numbers told so far."""
        return list(self.state.said)

    def outcome(self):
        """How the run ended, and at which row of which part; None while it goes on."""
        if self.state.ending is None:
            return None
        how, place = self.state.ending
        return (how, self.rows[place])

    def byte_at(self, place):
        """The byte there, of data or a room, that isn't held, or NoPlace."""
        if not is_plain_place(place) or not self.state.memory.has_byte(place):
            raise NoPlace(place)
        return self.state.memory.byte(place)

    def held_at(self, place):
        """What the field holds whose first byte is there, or NoPlace."""
        if not is_plain_place(place) or not self.state.memory.has_field(place):
            raise NoPlace(place)
        return self.state.memory.held(place)

    def tally(self):
        """By the place of each word that was done how often."""
        return {place: self.state.counts[place] for place in self.state.counts}


def is_plain_place(thing):
    """Whether the thing is a part's number, a stretch's name and an offset, whether there is such or not."""
    return is_tuple_of(thing, 3) and is_whole(thing[0]) and isinstance(thing[1], str) and is_whole(thing[2])


def play(texts, entry, inputs=(), *, most=1000):
    """A plain run of at most so many steps: (outputs, how, where, steps), where a part's number and a row."""
    return run_through(Plain(texts, entry, inputs), most)
