"""A text's rows put into parts and stretches, as they are written, whether they may stand so or not."""


class DraftStretch:
    """A stretch as a text writes it: the row that begins it, and those that may stand in it."""

    def __init__(self, head):
        self.head = head
        self.kind = head.words[0]
        self.rows = []


class DraftPart:
    """A part as a text writes it: the row that begins it, those of its names, its stretches."""

    def __init__(self, head):
        self.head = head
        self.standings = []
        self.stretches = []
        self.labels = {}
        self.stands = {}

    def note_names(self):
        """Notes where each label stands and which names are told or weak: of a name told twice the first counts."""
        for number, stretch in enumerate(self.stretches):
            for row in stretch.rows:
                if row.kind == "label":
                    self.labels.setdefault(label_of(row), (number, row.number))
        for row in self.standings:
            if row.words[0] != "soft":
                self.stands.setdefault(row.words[1], (row.words[0], row.number))

    def is_weak(self, name):
        """Whether the name counts as weak in the part."""
        return name in self.stands and self.stands[name][0] == "weak"

    def label_in(self, name, number):
        """The row of the label of this name in the part's stretch of this number, None where it has none."""
        if name not in self.labels or self.labels[name][0] != number:
            return None
        return self.labels[name][1]


class Draft:
    """A text's parts, and the numbers of its rows that can't stand where they do."""

    def __init__(self, rows):
        self.parts = []
        self.misplaced = []
        for row in rows:
            if row.kind == "part":
                self.parts.append(DraftPart(row))
            elif not may_stand(row, self.parts):
                self.misplaced.append(row.number)
            else:
                put(row, self.parts)
        for part in self.parts:
            part.note_names()


def label_of(row):
    """The name of the label that the row puts."""
    return row.words[0][:-1]


def may_stand(row, parts):
    """Whether a row of this kind may stand behind these parts."""
    if row.kind == "note":
        return True
    if len(parts) == 0:
        return False
    stretches = parts[-1].stretches
    if row.kind == "stretch":
        return True
    if row.kind == "standing":
        return len(stretches) == 0
    return len(stretches) > 0 and row.kind in ("label", "line", stretches[-1].kind)


def put(row, parts):
    """Puts the row, where it may stand, into the last of the parts."""
    if row.kind == "standing":
        parts[-1].standings.append(row)
    elif row.kind == "stretch":
        parts[-1].stretches.append(DraftStretch(row))
    elif row.kind != "note":
        parts[-1].stretches[-1].rows.append(row)
