"""What names mean among a row of parts."""

from byteround.errors import Twice, Untold


class Meanings:
    """The labels of a row of parts: each part's own, the told ones, the first weak ones."""

    def __init__(self, parts):
        self.parts = list(parts)
        self.own = [label_places(number, part) for number, part in enumerate(parts)]
        self.told = {}
        self.weak = {}
        self.again = []
        for number, part in enumerate(parts):
            for name in part.told:
                if name in self.told:
                    self.again.append((name, self.told[name][0], number))
                self.told.setdefault(name, self.own[number][name])
            for name in part.weak:
                self.weak.setdefault(name, self.own[number][name])

    def place_of(self, name, part):
        """What the name means that the part of this number holds, None of nowhere, or Untold; of no part where None."""
        if part is not None and name in self.own[part]:
            if name not in self.parts[part].weak or name not in self.told:
                return self.own[part][name]
        if name in self.told:
            return self.told[name]
        if name in self.weak:
            return self.weak[name]
        if part is not None and name in self.parts[part].soft:
            return None
        raise Untold(name, part)

    def means(self, name, part):
        """Whether the name means something, be it nowhere."""
        try:
            self.place_of(name, part)
        except Untold:
            return False
        return True

    def need_each_told_once(self):
        """Refuses with Twice names that two parts have told."""
        if len(self.again) > 0:
            name, one, other = min(self.again)
            raise Twice(name, one, other)


def label_places(number, part):
    """By each label of the part of this number its place: (part, stretch, offset)."""
    return {
        name: (number, k, offset)
        for k, stretch in enumerate(part.stretches) for name, offset in stretch.labels}
