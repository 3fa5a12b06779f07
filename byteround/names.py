"""What a name means in a unit."""

from byteround.meanings import Meanings


def meaning(unit, name, *, part=None):
    """(part, stretch, offset) by numbers, None of nowhere; or Twice, or Untold."""
    meanings = Meanings(unit.parts)
    meanings.need_each_told_once()
    return meanings.place_of(name, part)
