"""Which stretches and names make a part."""

from byteround.kinds import are_unlike, is_listed, is_name, is_rising
from byteround.stretchrules import field_word


def are_at_one(stretches):
    """Whether the stretches may stand in one part."""
    if not are_unlike([stretch.name for stretch in stretches]):
        return False
    if not are_unlike([name for stretch in stretches for name, _ in stretch.labels]):
        return False
    kinds = label_kinds(stretches)
    return all([kinds[name] == "code" for name in names_led_to(stretches) if name in kinds])


def label_kinds(stretches):
    """By each label of the stretches the kind of its stretch."""
    return {name: stretch.kind for stretch in stretches for name, _ in stretch.labels}


def names_led_to(stretches):
    """The names that a go, an if or a call of the stretches holds."""
    codes = [stretch for stretch in stretches if stretch.kind == "code"]
    return [hold[2] for code in codes for hold in code.holds if field_word(code.data, hold[0]) != "point"]


def names_held(stretches):
    """The names that the stretches hold, as keys."""
    return {hold[2]: True for stretch in stretches for hold in stretch.holds}


def near_names(stretches):
    """The names that near fields of the stretches hold, as keys."""
    return {hold[2]: True for stretch in stretches for hold in stretch.holds if hold[1] == "near"}


def are_rising_names(thing):
    """Whether the thing is a list of names, each once, as texts are."""
    return is_listed(thing) and all([is_name(name) for name in thing]) and is_rising(thing)


def are_told(thing, stretches):
    """Whether the thing is told names of a part of these stretches."""
    labels = label_kinds(stretches)
    return are_rising_names(thing) and all([name in labels for name in thing])


def are_weak(thing, stretches, told):
    """Whether the thing is weak names of a part of these stretches and told names."""
    if not are_told(thing, stretches):
        return False
    nears = near_names(stretches)
    return all([name not in told and name not in nears for name in thing])


def are_soft(thing, stretches):
    """Whether the thing is soft names of a part of these stretches."""
    if not are_rising_names(thing):
        return False
    held = names_held(stretches)
    labels = label_kinds(stretches)
    return all([name in held and name not in labels for name in thing])
