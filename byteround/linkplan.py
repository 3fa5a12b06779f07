"""What all holds of a link lead to, and which stretches are kept by that."""

from byteround.errors import Beyond, NoEntry, NotCode, Untold
from byteround.meanings import Meanings
from byteround.stretchrules import field_word
from byteround.taking import Taking


class LinkPlan:
    """All parts of a link, its entry, where each hold leads; or the link's refusals but TooGreat."""

    def __init__(self, units, entry, shelves, keep):
        taking = Taking(units, entry, shelves, keep)
        self.parts = taking.parts
        self.meanings = Meanings(self.parts)
        self.entry = self.entry_place(taking.entry)
        places = [self.entry] + [self.kept_place(name) for name in taking.keep]
        self.roots = {place[:2]: True for place in places}
        self.leads = {
            (number, k): [self.lead_of(number, stretch, hold) for hold in stretch.holds]
            for number, part in enumerate(self.parts) for k, stretch in enumerate(part.stretches)}
        self.shown = self.shown_by()

    def stretch_at(self, place):
        """The stretch in which the place is."""
        return self.parts[place[0]].stretches[place[1]]

    def kept_place(self, name):
        """What the name means, of no part, or NoEntry."""
        try:
            return self.meanings.place_of(name, None)
        except Untold:
            raise NoEntry(name)

    def entry_place(self, name):
        """What the name means, in code, or NoEntry."""
        place = self.kept_place(name)
        if self.stretch_at(place).kind != "code":
            raise NoEntry(name)
        return place

    def lead_of(self, number, stretch, hold):
        """Where a hold of the part of this number leads, None of nowhere, or the first refusal that is due."""
        at, _, name, plus = hold
        place = self.meanings.place_of(name, number)
        if place is None:
            return None
        part, k, offset = place
        target = self.stretch_at(place)
        if stretch.kind == "code" and field_word(stretch.data, at) != "point" and target.kind != "code":
            raise NotCode(name, number)
        if offset + plus >= target.size or plus != 0 and target.kind == "code":
            raise Beyond(name, number)
        return (part, k, offset + plus)

    def shown_by(self):
        """By each kept stretch the hold of a kept one that leads there first, None of entry and keep."""
        shown = {root: None for root in self.roots}
        kept = sorted(shown)
        at = 0
        while at < len(kept):
            part, k = kept[at]
            for number, place in enumerate(self.leads[(part, k)]):
                if place is not None and place[:2] not in shown:
                    shown[place[:2]] = (part, k, number)
                    kept.append(place[:2])
            at += 1
        return shown
