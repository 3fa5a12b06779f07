"""Deeds as rows of words: all but put."""

from byteround.deeds import SEVERAL, SLOTS
from byteround.kinds import is_name

NONE = "-"
EDITION_WORDS = ("-", "1", "2", "3")


def deed_words(deed):
    """The words that tell the deed."""
    slots = SLOTS[deed[0]]
    return [deed[0], deed[1]] + [slot_word(part, slot) for part, slot in zip(deed[2:], slots)]


def slot_word(part, slot):
    """The word that tells what stands in the deed's slot."""
    if slot == "edition":
        return NONE if part is None else str(part)
    return names_word(part, ",") if slot in SEVERAL else part


def names_word(names, between):
    """The names in one text."""
    return NONE if len(names) == 0 else between.join(names)


def deed_told(words):
    """The deed that the words tell, None where they tell none."""
    if words[0] not in SLOTS or words[0] == "put":
        return None
    slots = SLOTS[words[0]]
    if len(words) != 2 + len(slots) or not is_name(words[1]):
        return None
    if not all([fits_word(word, slot) for word, slot in zip(words[2:], slots)]):
        return None
    return tuple(words[:2] + [part_told(word, slot) for word, slot in zip(words[2:], slots)])


def fits_word(word, slot):
    """Whether the word tells what may stand in the deed's slot."""
    if slot == "edition":
        return word in EDITION_WORDS
    if slot in SEVERAL:
        return word == NONE or all([is_name(name) for name in word.split(",")])
    return is_name(word)


def part_told(word, slot):
    """What the word tells for the deed's slot."""
    if slot == "edition":
        return None if word == NONE else int(word)
    if slot in SEVERAL:
        return () if word == NONE else tuple(word.split(","))
    return word
