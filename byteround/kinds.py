"""What whole numbers, names and lists are, and how things of any kind are copied and compared."""

LETTERS = "abcdefghijklmnopqrstuvwxyz"
LONGEST_NAME = 8


def is_whole(thing):
    """Whether the thing is an int that is no truth."""
    return isinstance(thing, int) and not isinstance(thing, bool)


def is_between(thing, least, most):
    """Whether the thing is a whole number from least to most."""
    return is_whole(thing) and least <= thing <= most


def is_name(thing):
    """Whether the thing is a text of one to eight small letters."""
    if not isinstance(thing, str) or not 1 <= len(thing) <= LONGEST_NAME:
        return False
    return all([sign in LETTERS for sign in thing])


def is_listed(thing):
    """Whether the thing may be handed in where a tuple of tuples, objects or names is told of."""
    return isinstance(thing, (list, tuple))


def is_tuple_of(thing, many):
    """Whether the thing is a tuple of so many things."""
    return isinstance(thing, tuple) and len(thing) == many


def is_rising(things):
    """Whether each of the things is greater than the one ahead of it."""
    return all([one < other for one, other in zip(things, things[1:])])


def are_unlike(names):
    """Whether no name of the list stands there twice."""
    return len(set(names)) == len(names)


def many_alike(one, other):
    """With how many equal things both begin."""
    many = 0
    while many < min(len(one), len(other)) and one[many] == other[many]:
        many += 1
    return many


def copied(thing):
    """The same thing, of which no list or dict is shared, in exactly the built-in kinds."""
    if isinstance(thing, bool):
        return thing
    if isinstance(thing, int):
        return int(thing)
    if isinstance(thing, str):
        # A slice is a plain text whatever the class of the text it is taken from.
        return thing[:]
    if isinstance(thing, list):
        return [copied(part) for part in thing]
    if isinstance(thing, tuple):
        return tuple([copied(part) for part in thing])
    if isinstance(thing, dict):
        return {key: copied(thing[key]) for key in thing}
    return thing


def alike(one, other):
    """Whether two things are equal and of one kind, all the way in: True isn't 1."""
    if isinstance(one, bool) or isinstance(other, bool):
        return isinstance(one, bool) and isinstance(other, bool) and one == other
    if isinstance(one, list):
        return isinstance(other, list) and alike_rows(one, other)
    if isinstance(one, tuple):
        return isinstance(other, tuple) and alike_rows(one, other)
    if isinstance(one, dict):
        return isinstance(other, dict) and alike_dicts(one, other)
    return one == other


def alike_rows(one, other):
    """Whether two lists, or two tuples, have things alike in one order."""
    return len(one) == len(other) and all([alike(mine, yours) for mine, yours in zip(one, other)])


def alike_dicts(one, other):
    """Whether two dicts lead from keys alike to things alike."""
    return len(one) == len(other) and all([has_entry(other, key, one[key]) for key in one])


def has_entry(table, key, thing):
    """Whether the dict leads from a key like this one to a thing like this one."""
    # Looking the key up would find 1 for True.
    return any([alike(twin, key) and alike(table[twin], thing) for twin in table])
