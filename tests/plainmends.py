"""Slow, plain versions of what mends.py and kindpapers.py do, straight after the document, to compare with."""

from tests import plain


def with_at(term, place, other):
    """The term with the other one at that place, by the parts of plain.parts."""
    if place == ():
        return other
    inner = with_at(plain.parts(term)[place[0]][0], place[1:], other)
    head = term[0]
    if head == "rec":
        return (head, tuple((pair[0], inner if k == place[0] else pair[1]) for k, pair in enumerate(term[1])))
    if head == "case":
        ways = tuple((way[0], way[1], inner if k == place[0] else way[2]) for k, way in enumerate(term[2], start=1))
        return (head, inner if place[0] == 0 else term[1], ways)
    at = {"call": (1, 2), "add": (1, 2), "less": (1, 2), "times": (1, 2), "under": (1, 2, 3, 4),
          "get": (1,), "put": (1, 3), "tag": (2,), "fun": (2,)}[head][place[0]]
    return term[:at] + (inner,) + term[at + 1:]


def can_all(term, known, own):
    return plain.Look(term, known, own).kinds([spot[0] for spot in plain.spots(term)]) is not None


def mends(term, known, own=None):
    """The list of the least places with a hole at which all rules can be kept."""
    if can_all(term, known, own):
        return []
    places = [spot[0] for spot in plain.spots(term)]
    those = [place for place in places if can_all(with_at(term, place, ("hole",)), known, own)]
    return [place for place in those if not any(other != place and other[:len(place)] == place for other in those)]


def is_core(term, known, places, own=None):
    """Whether the places, in any order, are such that their rules can't be kept together, but all but any one's can."""
    if plain.Look(term, known, own).kinds(places) is not None:
        return False
    return all(plain.Look(term, known, own).kinds([other for other in places if other != place]) is not None
               for place in places)


def bundle(kinds):
    """One kind that has all of them, their numbers shared."""
    whole = ("num",)
    for kind in kinds[::-1]:
        whole = ("fun", kind, whole)
    return whole


def kinds_at(term, known, own=None):
    """The list of (place, kind), numbered anew in all of it; None where the rules can't be kept."""
    places = [spot[0] for spot in plain.spots(term)]
    found = plain.Look(term, known, own).kinds(places)
    if found is None:
        return None
    told = plain.told(bundle([found[place] for place in places]))
    rows = []
    for place in places:
        rows.append((place, told[1]))
        told = told[2]
    return rows
