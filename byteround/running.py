"""What a run is in the midst of, whatever its places are.

A place is a tuple: those of one stretch differ in their last number alone, the offset.
"""


class RunWord:
    """A word where it stands: without its mark, with the places that it leads to."""

    def __init__(self, name, letters, number, target, behind):
        self.name = name
        self.letters = letters
        self.number = number
        self.target = target
        self.behind = behind


class Memory:
    """Data and rooms: their bytes, and what their held fields hold."""

    def __init__(self):
        self.rows = {}
        self.fields = {}
        self.seconds = {}

    def lay(self, stretch, row):
        """Adds a stretch, by its places without their offsets."""
        self.rows[stretch] = list(row)

    def hold(self, place, target):
        """Lets the field whose first byte is at the place hold the target."""
        self.fields[place] = target
        self.seconds[moved_by(place, 1)] = True

    def has(self, place):
        """Whether the place is in a stretch of data or a room."""
        stretch = place[:-1]
        return stretch in self.rows and 0 <= place[-1] < len(self.rows[stretch])

    def has_byte(self, place):
        """Whether a byte is there that no field holds."""
        return self.has(place) and place not in self.fields and place not in self.seconds

    def has_field(self, place):
        """Whether a held field begins there."""
        return place in self.fields

    def byte(self, place):
        return self.rows[place[:-1]][place[-1]]

    def put_byte(self, place, byte):
        self.rows[place[:-1]][place[-1]] = byte

    def held(self, place):
        return self.fields[place]


def moved_by(place, many):
    """The place so many on in its stretch."""
    return place[:-1] + (place[-1] + many,)


class RunState:
    """All that a run has come to."""

    def __init__(self, words, memory, entry, inputs, most_piled):
        self.words = words
        self.memory = memory
        self.at = entry
        self.numbers = {"a": 0, "b": 0, "c": 0, "d": 0}
        self.pointers = {"p": None, "q": None}
        self.piled = []
        self.most_piled = most_piled
        self.wanted = list(inputs)
        self.read = 0
        self.said = []
        self.counts = {}
        self.ending = None

    def all_registers(self):
        """What each register has, by its letter."""
        return {**self.numbers, **self.pointers}
