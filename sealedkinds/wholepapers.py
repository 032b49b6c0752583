"""Papers of wholes: the kinds of all places of all definitions, to be looked at without solving."""

from sealedkinds.apart import known_by, sight_fault, value_fault
from sealedkinds.errors import Unknown
from sealedkinds.joined import faults
from sealedkinds.kindpapers import kinds_at, shows_kinds
from sealedkinds.modules import face_of


def paper_of(modules):
    """A list of (M, x, kinds), one for each definition, kinds as kinds_at tells; None where there are faults."""
    if faults(modules):
        return None
    found = []
    faces = []
    for module in modules:
        known = known_by(module, faces)
        for x, term in module[4]:
            kinds = kinds_at(term, list(known.items()), own=x)
            found.append((module[0], x, kinds))
            known[x] = kinds[-1][1]
        faces.append(face_of(module))
    return found


def shows_right(modules, thing):
    """Whether the thing is a list of such triples, of kinds that keep all rules, by which the whole has no fault."""
    if not isinstance(thing, list) or len(thing) != sum([len(module[4]) for module in modules]):
        return False
    faces = []
    start = 0
    for module in modules:
        end = start + len(module[4])
        if sight_fault(module, faces) is not None:
            return False
        kinds = kinds_shown(module, faces, thing[start:end])
        if kinds is None or value_fault(module, kinds) is not None:
            return False
        faces.append(face_of(module))
        start = end
    return True


def kinds_shown(module, faces, triples):
    """A dict of the kinds that the triples show the module's definitions to have; None where they don't show it."""
    known = known_by(module, faces)
    kinds = {}
    for (x, term), triple in zip(module[4], triples):
        if not isinstance(triple, tuple) or len(triple) != 3 or triple[0] != module[0] or triple[1] != x:
            return None
        if not is_shown(term, known, triple[2], x):
            return None
        kinds[x] = triple[2][-1][1]
        known[x] = kinds[x]
    return kinds


def is_shown(term, known, thing, own):
    """Whether shows_kinds takes the thing; not so where a name isn't known."""
    try:
        return shows_kinds(term, list(known.items()), thing, own=own)
    except Unknown:
        return False
