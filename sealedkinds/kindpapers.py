"""Papers of terms: the kinds of all places, to be looked at without solving."""

from sealedkinds.errors import Clash
from sealedkinds.kinds import is_kind_within
from sealedkinds.looking import DEEPEST, WIDE, looked_over
from sealedkinds.papers import is_kept
from sealedkinds.terms import is_place, places_of


def kinds_at(term, known, *, own=None):
    """The list of (place, kind) of all places, in order, as open as can be; Unknown(place), Clash(place)."""
    looked = looked_over(term, known, own)
    solver, nodes, broken = looked.keep()
    clash = looked.first_clash(solver, nodes, broken)
    if clash is not None:
        raise Clash(looked.place(clash))
    return list(zip(places_of(term), solver.kinds_of(nodes)))


def shows_kinds(term, known, thing, *, own=None):
    """Whether the thing is a list of (place, kind) of all places, in order, that keep all rules; Unknown(place)."""
    looked = looked_over(term, known, own)
    kinds = kinds_told(term, thing)
    return kinds is not None and is_kept(looked.spots, kinds)


def kinds_told(term, thing):
    """The kinds of a list of (place, kind) of all places; None where the thing is no such list, or one is too great."""
    places = places_of(term)
    if not isinstance(thing, list) or len(thing) != len(places):
        return None
    ways = {}
    kinds = []
    for place, row in zip(places, thing):
        if not isinstance(row, tuple) or len(row) != 2 or not is_place(row[0]) or row[0] != place:
            return None
        if not is_kind_within(row[1], ways, WIDE, DEEPEST):
            return None
        kinds.append(row[1])
    return kinds
