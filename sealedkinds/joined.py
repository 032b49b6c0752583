"""The whole: modules, each behind those that it uses."""

from sealedkinds.apart import fault_of
from sealedkinds.defining import defined_states, found_anew
from sealedkinds.known import Known
from sealedkinds.modules import face_of, is_module

# Looked at as one, with the seals opened, kinds may become so much greater.
WIDE_JOINED = 800
DEEPEST_JOINED = 24


def is_whole(thing):
    """Whether the thing is a whole."""
    if not isinstance(thing, list) or not all([is_module(item) for item in thing]):
        return False
    names = [module[0] for module in thing]
    for k, module in enumerate(thing):
        if module[0] in names[:k] or not all([use not in names[k:] for use in module[1]]):
            return False
    return True


def faults(modules):
    """The list of (M, fault) of those that have one, by the faces of those ahead."""
    found = []
    faces = []
    for module in modules:
        fault = fault_of(module, faces)
        if fault is not None:
            found.append((module[0], fault))
        faces.append(face_of(module))
    return found


def whole_states(modules):
    """A list of (M, x, word, what), one for each definition in order, looked at as one."""
    kinds = {}
    without = {}
    found = []
    for name, uses, _, _, defs in modules:
        known = {what: kinds[what] for what in kinds if what[0] in uses}
        leaning = {what: True for what in without if what[0] in uses}
        states = defined_states(defs, known, leaning, WIDE_JOINED, DEEPEST_JOINED, found_anew)
        for x, word, what in states:
            found.append((name, x, word, what))
            if word == "kind":
                kinds[(name, x)] = Known(what)
            else:
                without[(name, x)] = True
    return found
