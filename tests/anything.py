"""Things of every kind, to be handed in where the document says "of anything"."""

from byteround.errors import NoHex
from byteround.images import Image
from byteround.patches import Patch
from byteround.stripping import Chart
from byteround.things import Part, Stretch, Unit


class Text(str):
    """A text that isn't exactly a str."""


class Number(int):
    """A whole number that isn't exactly an int."""


class Row(tuple):
    """A tuple that isn't exactly one."""


class Rows(list):
    """A list that isn't exactly one."""


def a_stretch(name="box", **more):
    return Stretch(name, **{"kind": "data", "data": (1, 2, 3), **more})


def anything():
    """One thing of each kind, all of them made anew."""
    part = Part("lone", stretches=(a_stretch(),))
    return [
        None, True, False, 0, 1, -1, 255, 256, 65536, 10 ** 5000, -(10 ** 5000),
        "", "a", "abc", "A", "0", "07", "hello there", "\n", "x" * 5000, "9" * 5000,
        (), (0,), (1, 2), ("a", 1), (None,), ((0, 0),), ((((((((((),),),),),),),),),),
        [], [0], ["a"], [("a", 0)], [[]], [None], {}, {"a": 1}, {0: [1]}, {(0, 0): None}, {True: {}},
        a_stretch(), part, Unit((part,)), NoHex(3), [a_stretch()], (part, None),
        Image((0,), ((0, 1, "code", 1),), (), 0), Chart(5, None), Patch(3, ((1, (), (2,)),)), {"a": Patch(0)},
    ]


def is_exact(thing):
    """Whether the thing, all the way in, is of exactly a built-in kind."""
    if type(thing) in (list, tuple):
        return all(is_exact(part) for part in thing)
    if type(thing) is dict:
        return all(is_exact(key) and is_exact(thing[key]) for key in thing)
    return thing is None or type(thing) in (bool, int, str)
