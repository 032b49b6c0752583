"""Modules looked at apart, by the faces of those that they use."""

from sealedkinds.defining import defined_kinds, defined_states, found_anew
from sealedkinds.kinds import kind_parts, opened
from sealedkinds.known import known_of
from sealedkinds.looking import DEEPEST, WIDE
from sealedkinds.opening import comes_to


def states(module, faces):
    """A list of (x, word, what), one for each definition in order."""
    return states_by(module, faces, found_anew)


def states_by(module, faces, find):
    """Likewise, where find(x, looked) tells word and what of what is looked at."""
    return defined_states(module[4], known_of(known_by(module, faces)), {}, WIDE, DEEPEST, find)


def known_by(module, faces):
    """A dict of the kinds of the values, by (M, x), of the faces that the module uses."""
    known = {}
    for name, _, values in faces:
        if name in module[1]:
            for x, kind in values:
                known[(name, x)] = kind
    return known


def fault_of(module, faces):
    """None, or the first due pair (word, what)."""
    fault = sight_fault(module, faces)
    if fault is not None:
        return fault
    kinds, without = defined_kinds(module[4], known_of(known_by(module, faces)), WIDE, DEEPEST)
    return ("def", without) if without is not None else value_fault(module, kinds)


def sight_fault(module, faces):
    """The first due of ("use", M) and ("told", x), which need no kinds of definitions; None."""
    owns = {name: names for name, names, _ in faces}
    for name in module[1]:
        if name not in owns:
            return ("use", name)
    for x, kind in module[3]:
        if not is_in_sight(kind, module, owns):
            return ("told", x)
    return None


def is_in_sight(kind, module, owns):
    """Whether all sealed kinds in it are the module's own, or stand in the owns of a face that it uses."""
    name, uses, _, _, _ = module
    todo = [kind]
    while todo:
        part = todo.pop()
        if part[0] != "own":
            todo.extend(kind_parts(part))
        elif part[1] != name and (part[1] not in uses or part[2] not in owns[part[1]]):
            return False
    return True


def value_fault(module, kinds):
    """The first due of ("none", x) and ("closed", x), value by value, by the definitions' kinds; None."""
    name, _, seals, values, _ = module
    opens = [(name, seal, inside) for seal, inside in seals]
    for x, kind in values:
        if x not in kinds:
            return ("none", x)
        if not comes_to(opened(kinds[x], opens), opened(kind, opens)):
            return ("closed", x)
    return None
