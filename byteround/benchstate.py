"""What stands on a bench: things, how they were made, what is stale."""

from byteround.deeds import kind_of_thing, things_named
from byteround.errors import Circle, NoThing, OtherKind
from byteround.kinds import is_name
from byteround.making import made_by_deed


class Standing:
    """A thing on a bench: its deed, its number, and of what it was made, each with its number then."""

    def __init__(self, thing, deed, number, sources):
        self.kind = kind_of_thing(thing)
        self.thing = thing
        self.deed = deed
        self.number = number
        self.sources = sources

    def __eq__(self, other):
        # Equal things are of one kind.
        if not isinstance(other, Standing) or self.thing != other.thing or self.deed != other.deed:
            return False
        return self.number == other.number and self.sources == other.sources


class BenchState:
    """All that stands on a bench, and the number that the next new thing has."""

    def __init__(self):
        self.standing = {}
        self.following = 0

    def __eq__(self, other):
        if not isinstance(other, BenchState) or self.following != other.following:
            return False
        return self.standing == other.standing

    def twin(self):
        """Another such state, to be changed by itself."""
        state = BenchState()
        state.standing = {name: self.standing[name] for name in self.standing}
        state.following = self.following
        return state

    def thing_standing(self, name):
        """What stands there by this name, or NoThing."""
        if not is_name(name) or name not in self.standing:
            raise NoThing(name)
        return self.standing[name]

    def do_deed(self, deed):
        """Does the deed, or refuses with NoThing, OtherKind, Circle, or as the tool does."""
        if deed[0] == "drop":
            self.thing_standing(deed[1])
            del self.standing[deed[1]]
        else:
            self.put_standing(deed, made_by_deed(deed, self.things_for(deed)))

    def things_for(self, deed):
        """By their names the things of which the deed makes one, or NoThing, OtherKind, Circle."""
        named = things_named(deed)
        found = {name: self.thing_standing(name) for name, _ in named}
        for name, kinds in named:
            if found[name].kind not in kinds:
                raise OtherKind(name)
        if deed[1] in self.all_made_of(list(found)):
            raise Circle(deed[1])
        return {name: found[name].thing for name in found}

    def put_standing(self, deed, thing):
        """Puts the thing there that the deed has made."""
        number = self.number_for(deed[1], thing)
        self.standing[deed[1]] = Standing(thing, deed, number, self.sources_of(deed))

    def number_for(self, name, thing):
        """The number of a thing of this name: that of an equal one in whose place it comes, else the next one."""
        if name in self.standing and self.standing[name].thing == thing:
            return self.standing[name].number
        self.following += 1
        return self.following - 1

    def sources_of(self, deed):
        """Each name of what the deed makes a thing of, with its number by now."""
        return tuple([(name, self.standing[name].number) for name, _ in things_named(deed)])

    def all_made_of(self, names):
        """These names, and of what their things are made, through others as they stand, as keys."""
        found = {}
        waiting = list(names)
        while len(waiting) > 0:
            name = waiting.pop()
            if name not in found:
                found[name] = True
                waiting.extend(self.names_of_sources(name))
        return found

    def names_of_sources(self, name):
        """Of what the thing is made of this name; of nothing, where none is there."""
        if name not in self.standing:
            return []
        return [source for source, _ in self.standing[name].sources]

    def stale_names(self):
        """The names of all that are stale, as keys."""
        stale = {}
        grown = self.staler_names(stale)
        while len(grown) > 0:
            for name in grown:
                stale[name] = True
            grown = self.staler_names(stale)
        return stale

    def staler_names(self, stale):
        """The names of those that are stale, too, as these are."""
        return [
            name for name in self.standing
            if name not in stale and not all([self.is_fresh(source, stale) for source in self.standing[name].sources])]

    def is_fresh(self, source, stale):
        """Whether what something was made of is there, isn't stale and has the same number."""
        name, number = source
        return name in self.standing and name not in stale and self.standing[name].number == number

    def order_to_remake(self, names):
        """The stale ones of these, each behind the stale ones of which it is made, in its deed's order."""
        stale = self.stale_names()
        order = []
        for name in names:
            self.add_in_order(name, stale, order)
        return order

    def add_in_order(self, name, stale, order):
        """Adds the name, if it is a stale one and not there yet, behind those of which it is made."""
        if name in stale and name not in order:
            for source in self.names_of_sources(name):
                self.add_in_order(source, stale, order)
            order.append(name)
