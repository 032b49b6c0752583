"""The states of definitions, one behind another."""

from sealedkinds.known import Known
from sealedkinds.looked import Looked


def defined_states(defs, known, without, wide, deep, find):
    """A list of (x, word, what), one for each definition, by kinds of at most so many things and at most so deep.

    Known is a dict of what is known, without one of what is defined but has no kind; neither is changed.
    Find(x, looked) tells word and what of a definition that is neither unknown nor leaning.
    """
    kinds = {what: known[what] for what in known}
    leaning = {what: True for what in without}
    found = []
    for x, term in defs:
        looked = Looked(term, kinds, x, wide, deep)
        word, what = find(x, looked) if looked.unknown is None else unknown_state(looked, leaning)
        found.append((x, word, what))
        if word == "kind":
            kinds[x] = Known(what)
        else:
            leaning[x] = True
    return found


def defined_kinds(defs, known, wide, deep):
    """A dict of the kinds of the definitions up to the first one that has none, and the name of that one; None."""
    kinds = {what: known[what] for what in known}
    found = {}
    for x, term in defs:
        looked = Looked(term, kinds, x, wide, deep)
        kind = looked.told_kind() if looked.unknown is None else None
        if kind is None:
            return found, x
        found[x] = kind
        kinds[x] = Known(kind)
    return found, None


def found_anew(x, looked):
    """The word and the what of a definition, by looking at it."""
    return looked.state()


def unknown_state(looked, leaning):
    """The word and the what of a definition that names what has no kind."""
    part = looked.spots[looked.unknown][0]
    what = part[1] if part[0] == "name" else (part[1], part[2])
    if what in leaning:
        return "leans", part[-1]
    return "unknown", looked.place(looked.unknown)
