"""The refusals: one class for each, with the fields that tell what was refused.

A message has no field in it: a field may be anything, a number too great to be shown too.
"""

from byteround.kinds import alike, copied


class NoHex(ValueError):
    def __init__(self, at):
        ValueError.__init__(self, "this is no text of a row of bytes")
        self.at = copied(at)

    def __eq__(self, other):
        return isinstance(other, NoHex) and alike(self.at, other.at)


class NoBytes(ValueError):
    def __init__(self, at):
        ValueError.__init__(self, "these bytes aren't as told")
        self.at = copied(at)

    def __eq__(self, other):
        return isinstance(other, NoBytes) and alike(self.at, other.at)


class NoWord(ValueError):
    def __init__(self, at):
        ValueError.__init__(self, "here is no word")
        self.at = copied(at)

    def __eq__(self, other):
        return isinstance(other, NoWord) and alike(self.at, other.at)


class NoNumber(ValueError):
    def __init__(self, number):
        ValueError.__init__(self, "this is no number that can be written so")
        self.number = copied(number)

    def __eq__(self, other):
        return isinstance(other, NoNumber) and alike(self.number, other.number)


class NoUnit(ValueError):
    def __init__(self, field):
        ValueError.__init__(self, "a field of a unit isn't as told")
        self.field = copied(field)

    def __eq__(self, other):
        return isinstance(other, NoUnit) and alike(self.field, other.field)


class Wrong(ValueError):
    def __init__(self, row, word):
        ValueError.__init__(self, "a row of the text cannot stand")
        self.row = copied(row)
        self.word = copied(word)

    def __eq__(self, other):
        return isinstance(other, Wrong) and alike(self.row, other.row) and alike(self.word, other.word)


class NoImage(ValueError):
    def __init__(self, part):
        ValueError.__init__(self, "a part of an image isn't as told")
        self.part = copied(part)

    def __eq__(self, other):
        return isinstance(other, NoImage) and alike(self.part, other.part)


class NoPatch(ValueError):
    def __init__(self, spot):
        ValueError.__init__(self, "a spot of a patch isn't as told")
        self.spot = copied(spot)

    def __eq__(self, other):
        return isinstance(other, NoPatch) and alike(self.spot, other.spot)


class NoText(ValueError):
    def __init__(self, row):
        ValueError.__init__(self, "this is no text of a bench")
        self.row = copied(row)

    def __eq__(self, other):
        return isinstance(other, NoText) and alike(self.row, other.row)


class NoBase(ArithmeticError):
    def __init__(self, base):
        ArithmeticError.__init__(self, "an image cannot be put at this base")
        self.base = copied(base)

    def __eq__(self, other):
        return isinstance(other, NoBase) and alike(self.base, other.base)


class NoEdition(NotImplementedError):
    def __init__(self, edition, what):
        NotImplementedError.__init__(self, "the edition cannot bear this")
        self.edition = copied(edition)
        self.what = copied(what)

    def __eq__(self, other):
        return isinstance(other, NoEdition) and alike(self.edition, other.edition) and alike(self.what, other.what)


class NoDeed(NotImplementedError):
    def __init__(self, at):
        NotImplementedError.__init__(self, "this is no deed")
        self.at = copied(at)

    def __eq__(self, other):
        return isinstance(other, NoDeed) and alike(self.at, other.at)


class Untold(KeyError):
    def __init__(self, name, part):
        KeyError.__init__(self, "the name means nothing")
        self.name = copied(name)
        self.part = copied(part)

    def __eq__(self, other):
        return isinstance(other, Untold) and alike(self.name, other.name) and alike(self.part, other.part)


class NoThing(KeyError):
    def __init__(self, name):
        KeyError.__init__(self, "nothing has this name")
        self.name = copied(name)

    def __eq__(self, other):
        return isinstance(other, NoThing) and alike(self.name, other.name)


class NoEntry(LookupError):
    def __init__(self, name):
        LookupError.__init__(self, "the name is no entry")
        self.name = copied(name)

    def __eq__(self, other):
        return isinstance(other, NoEntry) and alike(self.name, other.name)


class OtherImage(LookupError):
    def __init__(self, total):
        LookupError.__init__(self, "the chart is of another image")
        self.total = copied(total)

    def __eq__(self, other):
        return isinstance(other, OtherImage) and alike(self.total, other.total)


class OtherProgram(LookupError):
    def __init__(self, way):
        LookupError.__init__(self, "the images are not one program")
        self.way = copied(way)

    def __eq__(self, other):
        return isinstance(other, OtherProgram) and alike(self.way, other.way)


class NotCode(TypeError):
    def __init__(self, name, part):
        TypeError.__init__(self, "the name leads to no code")
        self.name = copied(name)
        self.part = copied(part)

    def __eq__(self, other):
        return isinstance(other, NotCode) and alike(self.name, other.name) and alike(self.part, other.part)


class OtherKind(TypeError):
    def __init__(self, name):
        TypeError.__init__(self, "the thing of this name is of another kind")
        self.name = copied(name)

    def __eq__(self, other):
        return isinstance(other, OtherKind) and alike(self.name, other.name)


class Beyond(IndexError):
    def __init__(self, name, part):
        IndexError.__init__(self, "the name leads beyond its stretch")
        self.name = copied(name)
        self.part = copied(part)

    def __eq__(self, other):
        return isinstance(other, Beyond) and alike(self.name, other.name) and alike(self.part, other.part)


class NoPlace(IndexError):
    def __init__(self, at):
        IndexError.__init__(self, "here is no such place")
        self.at = copied(at)

    def __eq__(self, other):
        return isinstance(other, NoPlace) and alike(self.at, other.at)


class NothingDone(IndexError):
    def __init__(self):
        IndexError.__init__(self, "there is nothing to take back or do once more")

    def __eq__(self, other):
        return isinstance(other, NothingDone)


class TooGreat(OverflowError):
    def __init__(self, size):
        OverflowError.__init__(self, "the image is too great")
        self.size = copied(size)

    def __eq__(self, other):
        return isinstance(other, TooGreat) and alike(self.size, other.size)


class Twice(RuntimeError):
    def __init__(self, name, one, other):
        RuntimeError.__init__(self, "two parts have told one name")
        self.name = copied(name)
        self.one = copied(one)
        self.other = copied(other)

    def __eq__(self, other):
        if not isinstance(other, Twice) or not alike(self.name, other.name):
            return False
        return alike(self.one, other.one) and alike(self.other, other.other)


class Misfit(RuntimeError):
    def __init__(self, at):
        RuntimeError.__init__(self, "the patch doesn't fit")
        self.at = copied(at)

    def __eq__(self, other):
        return isinstance(other, Misfit) and alike(self.at, other.at)


class Clash(RuntimeError):
    def __init__(self, at):
        RuntimeError.__init__(self, "the patches clash")
        self.at = copied(at)

    def __eq__(self, other):
        return isinstance(other, Clash) and alike(self.at, other.at)


class Uncarried(RuntimeError):
    def __init__(self, at):
        RuntimeError.__init__(self, "a spot cannot be carried over")
        self.at = copied(at)

    def __eq__(self, other):
        return isinstance(other, Uncarried) and alike(self.at, other.at)


class Circle(RuntimeError):
    def __init__(self, name):
        RuntimeError.__init__(self, "the thing would be made of itself")
        self.name = copied(name)

    def __eq__(self, other):
        return isinstance(other, Circle) and alike(self.name, other.name)


class NoAsk(Exception):
    def __init__(self, row):
        Exception.__init__(self, "this is no row that is asked")
        self.row = copied(row)

    def __eq__(self, other):
        return isinstance(other, NoAsk) and alike(self.row, other.row)
