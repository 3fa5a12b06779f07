"""Images taken apart into units of which the same images are linked again."""

from byteround.kinds import LETTERS
from byteround.layout import bytes_laid, near_target, place_at, words_laid
from byteround.things import Part, Stretch, Unit
from byteround.wordtable import hold_form

PART = "image"

# Longer than any name that is made of a number here.
NOWHERE = "nowhere"


class Pieces:
    """An image in pieces: where each held field leads, and the labels to lead there."""

    def __init__(self, image):
        self.image = image
        self.entry = place_at(image.stretches, image.entry)
        self.forms = {at: "full" for at, _ in image.holds}
        self.targets = {at: self.place_led_to(target) for at, target in image.holds}
        words = words_laid(image.data, image.stretches)
        for spot in words:
            if hold_form(words[spot][0]) == "near":
                self.forms[spot + 1] = "near"
                self.targets[spot + 1] = self.place_led_to(near_target(spot, words[spot]))
        self.labels = {place: name_of(number) for number, place in enumerate(self.labelled_places())}

    def place_led_to(self, target):
        """The place of a spot, None of nowhere."""
        return None if target is None else place_at(self.image.stretches, target)

    def labelled_places(self):
        """The places that have labels: each stretch's begin, the entry, what fields lead to in code."""
        places = [(number, 0) for number in range(len(self.image.stretches))] + [self.entry]
        places.extend([place for place in self.targets.values() if place is not None and self.is_code(place)])
        return sorted(set(places))

    def is_code(self, place):
        """Whether the place is in code."""
        return self.image.stretches[place[0]][2] == "code"

    def hold_to(self, place):
        """The name and the plus by which a field leads to the place."""
        if place is None:
            return (NOWHERE, 0)
        if self.is_code(place):
            return (self.labels[place], 0)
        # In data a label can't stand at each byte: its stretch's first one leads there.
        return (self.labels[(place[0], 0)], place[1])


def taken_apart(image):
    """(unit, entry, keep) of which link tells the image again, with other notes."""
    pieces = Pieces(image)
    stretches = [stretch_of(pieces, number) for number in range(len(image.stretches))]
    soft = [NOWHERE] if None in list(pieces.targets.values()) else []
    told = sorted(list(pieces.labels.values()))
    keep = [pieces.labels[(number, 0)] for number in range(len(stretches))]
    unit = Unit([Part(PART, stretches=stretches, told=told, soft=soft)])
    return (unit, pieces.labels[pieces.entry], tuple(sorted(keep)))


def stretch_of(pieces, number):
    """The stretch of which the image's stretch of this number is linked."""
    begin, size, kind, step = pieces.image.stretches[number]
    row = list(bytes_laid(pieces.image.data, pieces.image.stretches[number]))
    holds = []
    for at in sorted(pieces.targets):
        if begin <= at < begin + size:
            name, plus = pieces.hold_to(pieces.targets[at])
            holds.append((at - begin, pieces.forms[at], name, plus))
            row[at - begin] = 0
            if pieces.forms[at] == "full":
                row[at - begin + 1] = 0
    labels = [(pieces.labels[place], place[1]) for place in sorted(pieces.labels) if place[0] == number]
    return Stretch(
        name_of(number), kind=kind, step=step, data=tuple(row), size=size, labels=labels, holds=holds)


def name_of(number):
    """A name for each number, few letters for small ones."""
    letters = [LETTERS[number % len(LETTERS)]]
    rest = number // len(LETTERS)
    while rest > 0:
        letters.append(LETTERS[rest % len(LETTERS)])
        rest = rest // len(LETTERS)
    return "".join(letters)
