"""The kinds of terms, found as open as can be."""

from sealedkinds.errors import Clash, Unknown
from sealedkinds.rules import Places

WIDE = 100
DEEPEST = 16


def kind_of(term, known, *, own=None):
    """The told kind of the term; Unknown(place), Clash(place)."""
    places = looked_over(term, known, own)
    if not can_keep(places, places.spots):
        raise Clash(first_clash(term, known, own))
    return places.solver.kinds_of([places.nodes[()]])[0]


def can_be(term, known, places, *, own=None):
    """Whether the rules of just these places of the term can be kept together; Unknown(place)."""
    looked = looked_over(term, known, own)
    return can_keep(looked, [spot for spot in looked.spots if spot[0] in places])


def looked_over(term, known, own):
    """The places of the term, no rule kept as yet; Unknown(place)."""
    places = Places(term, known, own)
    for spot in places.spots:
        if places.is_unknown(spot):
            raise Unknown(spot[0])
    return places


def can_keep(places, spots):
    """Keeps the rules of these spots, too; whether all are kept by kinds that aren't too great."""
    for spot in spots:
        if not places.keep(spot):
            return False
    return places.within(WIDE, DEEPEST)


def first_clash(term, known, own):
    """The first place, in order, by which the rules can't be kept together; None where they can."""
    places = Places(term, known, own)
    for spot in places.spots:
        if not can_keep(places, [spot]):
            return spot[0]
    return None
