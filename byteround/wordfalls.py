"""Which words can't be done, and how they fall."""

from byteround.running import moved_by

# By a word that uses a place: which of its letters has it.
USED = {"callat": 0, "goat": 0, "load": 1, "store": 1, "walk": 0, "turn": 0, "take": 1, "keep": 1}


def fall_of(state, word):
    """The first of the falls that is so of the next word, None where it can be done."""
    if uses_nowhere(state, word):
        return "nowhere"
    if is_other_sort(state, word):
        return "sort"
    if has_no_pile(state, word):
        return "pile"
    if is_dry(state, word):
        return "dry"
    if goes_off(state, word):
        return "off"
    return None


def place_used(state, word):
    """The place that the word uses by a register."""
    return state.pointers[word.letters[USED[word.name]]]


def leads_away(state, word):
    """Whether the word is one that goes or calls, or an if that does so by now."""
    if word.name == "if":
        return state.numbers[word.letters] != 0
    return word.name in ("go", "call")


def uses_nowhere(state, word):
    """Whether the word uses nowhere as a place."""
    if word.name in USED:
        return place_used(state, word) is None
    return leads_away(state, word) and word.target is None


def is_other_sort(state, word):
    """Whether the word wants another sort of place, or of what is piled."""
    name = word.name
    if name in ("load", "store"):
        return not state.memory.has_byte(place_used(state, word))
    if name in ("take", "keep"):
        return not state.memory.has_field(place_used(state, word))
    if name in ("walk", "turn"):
        return not state.memory.has(place_used(state, word))
    if name in ("callat", "goat"):
        return place_used(state, word) not in state.words
    if name in ("pop", "back") and len(state.piled) > 0:
        return isinstance(state.piled[-1], tuple) == (name == "pop")
    return False


def has_no_pile(state, word):
    """Whether the pile has no room for what the word puts there, or nothing that it could take."""
    if word.name in ("push", "call", "callat"):
        return len(state.piled) >= state.most_piled
    return word.name in ("pop", "back") and len(state.piled) == 0


def is_dry(state, word):
    """Whether the word wants an input behind the last one."""
    return word.name == "in" and state.read == len(state.wanted)


def goes_off(state, word):
    """Whether the word leads out of the stretch of its place, or of its own."""
    if word.name in ("walk", "turn") and not state.memory.has(place_walked_to(state, word)):
        return True
    if word.name in ("halt", "back", "go", "goat") or word.name == "if" and leads_away(state, word):
        return False
    return word.behind is None


def place_walked_to(state, word):
    """The place, within its stretch or not, to which a walk or a turn goes."""
    many = state.numbers[word.letters[1]]
    return moved_by(place_used(state, word), many if word.name == "walk" else -many)
