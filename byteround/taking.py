"""Which units are taken from shelves for others."""

from byteround.kinds import copied
from byteround.meanings import Meanings


class Taking:
    """The units handed in, what is taken for them, and all their parts; Twice of either."""

    def __init__(self, units, entry, shelves, keep):
        self.entry = copied(entry)
        self.keep = sorted(set(copied(list(keep))))
        self.parts = parts_of(units)
        self.taken = []
        Meanings(self.parts).need_each_told_once()
        self.take_all(shelves)
        Meanings(self.parts).need_each_told_once()

    def take_all(self, shelves):
        """Takes a unit for the first wanted name that one has told, as long as there is such."""
        offers = offers_of(shelves)
        found = self.first_wanted(offers)
        while found is not None:
            name, part = found
            shelf, number = offers[name]
            self.taken.append((shelf, number, name, part))
            self.parts.extend(shelves[shelf][number].parts)
            found = self.first_wanted(offers)

    def first_wanted(self, offers):
        """The first name that means nothing, but is offered, and the part that wants it; None where there is none."""
        meanings = Meanings(self.parts)
        for name, part in self.wants():
            if name in offers and not meanings.means(name, part):
                return (name, part)
        return None

    def wants(self):
        """All names that are asked for, in their order, each with its part's number."""
        wants = [(self.entry, None)] + [(name, None) for name in self.keep]
        for number, part in enumerate(self.parts):
            wants.extend([(hold[2], number) for stretch in part.stretches for hold in stretch.holds])
        return wants


def parts_of(units):
    """All parts of the units, in order."""
    return [part for unit in units for part in unit.parts]


def offers_of(shelves):
    """By each name that a unit on the shelves has told the first such unit: (shelf, number)."""
    offers = {}
    for shelf, units in enumerate(shelves):
        for number, unit in enumerate(units):
            for part in unit.parts:
                for name in part.told:
                    offers.setdefault(name, (shelf, number))
    return offers
