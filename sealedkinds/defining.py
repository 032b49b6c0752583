"""The states of definitions, one behind another."""

from sealedkinds.looked import Looked


def defined_states(defs, known, without, wide, deep):
    """A list of (x, word, what), one for each definition, by kinds of at most so many things and at most so deep.

    Known is a dict of the kinds of what is known, without one of what is defined but has no kind; neither is changed.
    """
    kinds = {what: known[what] for what in known}
    leaning = {what: True for what in without}
    found = []
    for x, term in defs:
        word, what = state_of(x, term, kinds, leaning, wide, deep)
        found.append((x, word, what))
        if word == "kind":
            kinds[x] = what
        else:
            leaning[x] = True
    return found


def state_of(x, term, kinds, leaning, wide, deep):
    """The word and the what of one definition."""
    looked = Looked(term, kinds, x, wide, deep)
    if looked.unknown is None:
        return looked.state()
    part = looked.spots[looked.unknown][0]
    what = part[1] if part[0] == "name" else (part[1], part[2])
    if what in leaning:
        return "leans", part[-1]
    return "unknown", looked.place(looked.unknown)
