"""The table of words: how each begins, which registers it has, what its field is."""

# By the name: the first of the bytes that begin the word, its registers, its field.
WORDS = {
    "halt": (0x00, "", None),
    "back": (0x01, "", None),
    "out": (0x04, "n", None),
    "in": (0x08, "n", None),
    "push": (0x0c, "n", None),
    "pop": (0x10, "n", None),
    "set.short": (0x14, "n", "byte"),
    "set.long": (0x18, "n", "two"),
    "copy": (0x20, "nm", None),
    "add": (0x30, "nm", None),
    "less": (0x40, "nm", None),
    "times": (0x50, "nm", None),
    "go.short": (0x60, "", "near"),
    "go.long": (0x61, "", "full"),
    "call.short": (0x62, "", "near"),
    "call.long": (0x63, "", "full"),
    "if.short": (0x64, "n", "near"),
    "if.long": (0x68, "n", "full"),
    "point": (0x70, "x", "full"),
    "walk": (0x78, "xn", None),
    "turn": (0x80, "xn", None),
    "load": (0x88, "nx", None),
    "store": (0x90, "nx", None),
    "same": (0x98, "n", None),
    "move": (0xa0, "xy", None),
    "take": (0xa4, "xy", None),
    "keep": (0xa8, "xy", None),
    "callat": (0xac, "x", None),
    "goat": (0xae, "x", None),
    "none": (0xb0, "nx", None),
}

# For each register its letters, and how far apart the bytes of two neighbours are.
REGISTERS = {
    "": (),
    "n": (("abcd", 1),),
    "nm": (("abcd", 4), ("abcd", 1)),
    "x": (("pq", 1),),
    "xn": (("pq", 4), ("abcd", 1)),
    "nx": (("abcd", 1), ("pq", 4)),
    "xy": (("pq", 2), ("pq", 1)),
}

# How many bytes begin a word of these registers.
SPANS = {"": 1, "n": 4, "nm": 16, "x": 2, "xn": 8, "nx": 8, "xy": 4}

# How many bytes, the least and the greatest number.
FIELDS = {
    None: (0, None, None),
    "byte": (1, 0, 255),
    "two": (2, 0, 65535),
    "near": (1, -128, 127),
    "full": (2, 0, 65535),
}


def registers_of(name):
    """For each register of the named word its letters and its factor."""
    _, pattern, _ = WORDS[name]
    return REGISTERS[pattern]


def field_of(name):
    """Of the named word's field how many bytes it has, its least and its greatest number."""
    _, _, field = WORDS[name]
    return FIELDS[field]


def width_of(name):
    """How many bytes the named word has."""
    many, _, _ = field_of(name)
    return 1 + many


def hold_form(name):
    """The form of the hold at the named word's field, None of a word that has no hold."""
    _, _, field = WORDS[name]
    return field if field in ("near", "full") else None


def first_byte(name, registers):
    """The byte that begins the named word with these registers."""
    byte, _, _ = WORDS[name]
    for letter, (letters, factor) in zip(registers, registers_of(name)):
        byte += letters.index(letter) * factor
    return byte


def begun_by(byte):
    """The name and the registers of the word that the byte begins, or None."""
    for name in WORDS:
        first, pattern, _ = WORDS[name]
        if first <= byte < first + SPANS[pattern]:
            rest = byte - first
            registers = [letters[rest // factor % len(letters)] for letters, factor in REGISTERS[pattern]]
            return (name, "".join(registers))
    return None
