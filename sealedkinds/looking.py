"""The kinds of terms, found as open as can be."""

from sealedkinds.errors import Clash, Unknown
from sealedkinds.known import Known
from sealedkinds.looked import Looked
from sealedkinds.terms import places_of

WIDE = 100
DEEPEST = 16


def kind_of(term, known, *, own=None):
    """The told kind of the term; Unknown(place), Clash(place)."""
    looked = looked_over(term, known, own)
    word, what = looked.state()
    if word == "clash":
        raise Clash(what)
    return what


def can_be(term, known, places, *, own=None):
    """Whether the rules of just these places of the term can be kept together; Unknown(place)."""
    looked = looked_over(term, known, own)
    wanted = {place: True for place in places}
    return looked.can_keep([place in wanted for place in places_of(term)])


def looked_over(term, known, own):
    """The term, ready to be looked at; Unknown(place)."""
    looked = Looked(term, {what: Known(kind) for what, kind in known}, own, WIDE, DEEPEST)
    if looked.unknown is not None:
        raise Unknown(looked.place(looked.unknown))
    return looked
