"""Modules and their faces."""

from sealedkinds.kinds import is_told, ways_and_owns
from sealedkinds.names import are_rising_names, is_name, is_row
from sealedkinds.terms import is_term


def is_module(thing):
    """Whether the thing is a module."""
    if not isinstance(thing, tuple) or len(thing) != 5:
        return False
    name, uses, seals, values, defs = thing
    if not is_name(name) or not are_names(uses) or name in uses or not are_seals(seals):
        return False
    return are_values(values, name, [seal[0] for seal in seals]) and are_defs(defs)


def is_face(thing):
    """Whether the thing is a face."""
    if not isinstance(thing, tuple) or len(thing) != 3:
        return False
    name, owns, values = thing
    return is_name(name) and are_names(owns) and are_values(values, name, owns)


def face_of(module):
    """The face of a module."""
    name, _, seals, values, _ = module
    return (name, tuple([seal[0] for seal in seals]), values)


def are_names(thing):
    """Whether the thing is a rising tuple of names."""
    return isinstance(thing, tuple) and are_rising_names(thing)


def are_seals(thing):
    """Whether the thing is a module's seals."""
    return is_row(thing, 2) and all([is_sealable(kind) for _, kind in thing])


def is_sealable(thing):
    """Whether the thing is a kind without numbers and sealed kinds."""
    return ways_and_owns(thing) == ({}, [])


def are_values(thing, name, owns):
    """Whether the thing is the values of the module or face of that name that has these sealed kinds of its own."""
    return is_row(thing, 2) and all([is_tellable(kind, name, owns) for _, kind in thing])


def is_tellable(thing, name, owns):
    """Whether the thing is a kind as told tells it, whose sealed ones of that module are among owns."""
    found = ways_and_owns(thing)
    if found is None or (found[0] and not is_told(thing)):
        return False
    return all([module != name or own in owns for module, own in found[1]])


def are_defs(thing):
    """Whether the thing is a module's definitions."""
    if not isinstance(thing, tuple) or not thing:
        return False
    names = []
    for item in thing:
        if not isinstance(item, tuple) or len(item) != 2 or not is_name(item[0]) or not is_term(item[1]):
            return False
        names.append(item[0])
    return len(set(names)) == len(names)
