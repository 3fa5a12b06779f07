"""The bench: things by names, made of one another, made anew, undone."""

from byteround.benchstate import BenchState
from byteround.deeds import is_deed
from byteround.errors import NoDeed, NothingDone
from byteround.kinds import copied


class Bench:
    """Things by names, and all that was done and can be taken back.

    A doing is a tuple: ("do", deed), ("several", deeds), ("remake", names of one or of none for all).
    """

    def __init__(self):
        self.state = BenchState()
        # Each doing with the state ahead of it, and those taken back with the state behind them.
        self.done = []
        self.taken_back = []

    def __eq__(self, other):
        return isinstance(other, Bench) and self.state == other.state

    def do(self, deed):
        """Does a deed, or NoDeed, NoThing, OtherKind, Circle, or as the tool refuses."""
        if not is_deed(deed):
            raise NoDeed(0)
        kept = copied(deed)
        self.do_all(("do", kept), [kept])

    def several(self, deeds):
        """Does the deeds of a list, all of them or none."""
        if not isinstance(deeds, list):
            raise NoDeed(0)
        for number, deed in enumerate(deeds):
            if not is_deed(deed):
                raise NoDeed(number)
        kept = copied(deeds)
        self.do_all(("several", kept), kept)

    def do_all(self, doing, deeds):
        """Does the deeds, all of them or none, as one doing."""
        state = self.state.twin()
        for deed in deeds:
            state.do_deed(deed)
        self.settle(state, doing)

    def settle(self, state, doing):
        """Goes on from the state to which a doing has led; one that leaves all as it was is forgotten."""
        if state != self.state:
            self.done.append((doing, self.state))
            self.taken_back = []
            self.state = state

    def undo(self):
        """Takes back the last doing that left the bench other than it was, or NothingDone."""
        if len(self.done) == 0:
            raise NothingDone()
        doing, state = self.done.pop()
        self.taken_back.append((doing, self.state))
        self.state = state

    def redo(self):
        """Does once more what was taken back last, or NothingDone."""
        if len(self.taken_back) == 0:
            raise NothingDone()
        doing, state = self.taken_back.pop()
        self.done.append((doing, self.state))
        self.state = state

    def remake(self, name):
        """Makes a stale thing anew, ahead of it the stale ones of which it is made; tells the names in this order."""
        self.state.thing_standing(name)
        return self.remake_these(("remake", (copied(name),)), [name])

    def remake_all(self):
        """Makes all stale things anew; tells their names in the order made."""
        return self.remake_these(("remake", ()), self.stale())

    def remake_these(self, doing, names):
        """Makes the stale ones of these anew, all or none, as one doing."""
        order = self.state.order_to_remake(names)
        state = self.state.twin()
        for name in order:
            state.do_deed(state.standing[name].deed)
        self.settle(state, doing)
        return order

    def names(self):
        """All names, sorted."""
        return sorted(self.state.standing)

    def stale(self):
        """The names of stale things, sorted."""
        return sorted(self.state.stale_names())

    def kind_of(self, name):
        """Of which kind the thing is, or NoThing."""
        return self.state.thing_standing(name).kind

    def thing_of(self, name):
        """The thing of this name, or NoThing."""
        return copied(self.state.thing_standing(name).thing)

    def deed_of(self, name):
        """The deed that has made the thing, or NoThing."""
        return copied(self.state.thing_standing(name).deed)

    def number_of(self, name):
        """The thing's number, or NoThing."""
        return self.state.thing_standing(name).number

    def made_of(self, name):
        """The names of what the thing is made of, itself or through others, sorted, or NoThing."""
        self.state.thing_standing(name)
        return sorted(self.state.all_made_of(self.state.names_of_sources(name)))

    def makes(self, name):
        """The names of all that is made of the thing, itself or through others, sorted, or NoThing."""
        self.state.thing_standing(name)
        return [other for other in self.names() if name in self.made_of(other)]
