"""Looks at what is told of two images: whether it shows that they are one program."""

from byteround.kinds import is_tuple_of, is_whole
from byteround.matching import same_program


def shows_same(one, other, thing):
    """Whether the thing is a paper, in any order, by which the stretches of both images match."""
    if not isinstance(thing, list) or not all([is_pair(pair) for pair in thing]):
        return False
    told = same_program(one, other)
    return told[0] == "same" and sorted(thing) == told[1]


def is_pair(thing):
    """Whether the thing is a tuple of two stretches' numbers, whether there are such or not."""
    return is_tuple_of(thing, 2) and all([is_whole(number) for number in thing])
