"""What is out where rules clash: the least places that mend, and rules that can't be kept together."""

from sealedkinds.looking import looked_over
from sealedkinds.terms import is_place, places_of, term_parts


def mends(term, known, *, own=None):
    """The list, in order, of the least places with a hole at which all rules can be kept; Unknown(place)."""
    looked = looked_over(term, known, own)
    if looked.can_keep():
        return []
    starts = starts_of(looked.spots)
    found = []
    # With a hole around one that mends, all can be kept: so who mends stands straight in another one, or is the whole.
    todo = [len(starts) - 1]
    while todo:
        number = todo.pop()
        inner = [part for part in straight_in(number, starts) if is_mended(looked, starts[part], part)]
        if not inner:
            found.append(number)
        todo.extend(inner)
    places = places_of(term)
    return [places[number] for number in sorted(found)]


def starts_of(spots):
    """Of each spot the number of the first one within its part."""
    starts = []
    for number, (part, _) in enumerate(spots):
        start = number
        for _ in term_parts(part):
            start = starts[start - 1]
        starts.append(start)
    return starts


def straight_in(number, starts):
    """The numbers of the spots straight in that one, from right to left."""
    found = []
    inner = number - 1
    while inner >= starts[number]:
        found.append(inner)
        inner = starts[inner] - 1
    return found


def is_mended(looked, start, end):
    """Whether all rules can be kept with a hole in the place of the spots from start to end."""
    return looked.can_keep([number < start or number > end for number in range(len(looked.spots))])


def core_of(term, known, *, own=None):
    """A list of places, in order, whose rules can't be kept together, but all but any one can; None; Unknown(place)."""
    looked = looked_over(term, known, own)
    solver, nodes, broken = looked.keep()
    clash = looked.first_clash(solver, nodes, broken)
    if clash is None:
        return None
    # Those ahead of the first clash can be kept: it's in each core of those up to it.
    chosen = [True for _ in range(clash + 1)]
    for number in range(clash):
        chosen[number] = False
        chosen[number] = looked.can_keep(chosen, clash + 1)
    return [place for place, is_in in zip(places_of(term), chosen) if is_in]


def shows_core(term, known, thing, *, own=None):
    """Whether the thing is such a list, in order, no place twice; Unknown(place)."""
    looked = looked_over(term, known, own)
    numbers = numbers_told(term, thing)
    if numbers is None:
        return False
    chosen = [False for _ in looked.spots]
    for number in numbers:
        chosen[number] = True
    if looked.can_keep(chosen):
        return False
    for number in numbers:
        chosen[number] = False
        if not looked.can_keep(chosen):
            return False
        chosen[number] = True
    return True


def numbers_told(term, thing):
    """The numbers of the places of which the thing is a list, in order; None where it's no such list."""
    if not isinstance(thing, list):
        return None
    numbers = {place: number for number, place in enumerate(places_of(term))}
    found = []
    for place in thing:
        if not is_place(place) or place not in numbers or (found and found[-1] >= numbers[place]):
            return None
        found.append(numbers[place])
    return found
