"""Stretches, parts and units."""

from byteround.errors import NoUnit
from byteround.kinds import copied, is_listed, is_name
from byteround.partrules import are_at_one, are_soft, are_told, are_weak
from byteround.stretchrules import stretch_fault, told_size


class Stretch:
    """Code, data or room, with its labels, holds and lines."""

    def __init__(self, name, *, kind, step=1, data=(), size=None, labels=(), holds=(), lines=((0, 0),)):
        fault = stretch_fault(name, kind, step, data, size, labels, holds, lines)
        if fault is not None:
            raise NoUnit(fault)
        self.name = copied(name)
        self.kind = copied(kind)
        self.step = copied(step)
        self.data = copied(data)
        self.size = copied(told_size(size, kind, data))
        self.labels = tuple(copied(labels))
        self.holds = tuple(copied(holds))
        self.lines = tuple(copied(lines))

    def __eq__(self, other):
        if not isinstance(other, Stretch) or self.name != other.name or self.kind != other.kind:
            return False
        if self.step != other.step or self.data != other.data or self.size != other.size:
            return False
        return self.labels == other.labels and self.holds == other.holds and self.lines == other.lines

    def __len__(self):
        return len(range(self.size))


class Part:
    """Stretches, and how their names stand towards other parts."""

    def __init__(self, name, *, stretches=(), told=(), weak=(), soft=()):
        if not is_name(name):
            raise NoUnit("name")
        if not are_stretches(stretches) or not are_at_one(stretches):
            raise NoUnit("stretches")
        if not are_told(told, stretches):
            raise NoUnit("told")
        if not are_weak(weak, stretches, told):
            raise NoUnit("weak")
        if not are_soft(soft, stretches):
            raise NoUnit("soft")
        self.name = copied(name)
        self.stretches = tuple(stretches)
        self.told = tuple(copied(told))
        self.weak = tuple(copied(weak))
        self.soft = tuple(copied(soft))

    def __eq__(self, other):
        if not isinstance(other, Part) or self.name != other.name or self.stretches != other.stretches:
            return False
        return self.told == other.told and self.weak == other.weak and self.soft == other.soft


def are_stretches(thing):
    """Whether the thing is a list of stretches."""
    return is_listed(thing) and all([isinstance(stretch, Stretch) for stretch in thing])


def are_parts(thing):
    """Whether the thing is a list of one part or more."""
    return is_listed(thing) and len(thing) > 0 and all([isinstance(part, Part) for part in thing])


class Unit:
    """One part or more."""

    def __init__(self, parts):
        if not are_parts(parts):
            raise NoUnit("parts")
        self.parts = tuple(parts)

    def __eq__(self, other):
        return isinstance(other, Unit) and self.parts == other.parts

    def __len__(self):
        sizes = [len(stretch) for part in self.parts for stretch in part.stretches]
        return len(range(sum(sizes)))
