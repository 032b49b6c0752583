"""Terms: what is one, its places, its parts, what it names."""

from sealedkinds.errors import NoPlace
from sealedkinds.names import all_names, is_number, is_row
from sealedkinds.walking import all_in

MOST = 99990

# What stands behind the head, in the order of the text: n a name or a label, t a term, # a number.
LAYOUTS = {
    "num": "#", "name": "n", "from": "nn", "hole": "", "fun": "nt", "call": "tt",
    "add": "tt", "less": "tt", "times": "tt", "under": "tttt", "get": "tn", "put": "tnt", "tag": "nt",
}

# Where in it terms and names stand, but for rec and case.
TERMS_AT = {
    "num": (), "name": (), "from": (), "hole": (), "fun": (2,), "call": (1, 2), "add": (1, 2), "less": (1, 2),
    "times": (1, 2), "under": (1, 2, 3, 4), "get": (1,), "put": (1, 3), "tag": (2,),
}
NAMES_AT = {
    "num": (), "name": (1,), "from": (1, 2), "hole": (), "fun": (1,), "call": (), "add": (), "less": (),
    "times": (), "under": (), "get": (2,), "put": (2,), "tag": (1,),
}


def layout_of(head, many):
    """The layout of so many things behind that head; another length where there can't be so many, or no such head."""
    if head == "rec":
        return "nt" * (many // 2)
    if head == "case":
        return "t" + "nnt" * ((many - 1) // 3)
    return LAYOUTS.get(head, "")


def items_of(term):
    """What stands behind the head of a term, pairs and ways taken apart."""
    if term[0] == "rec":
        return [item for pair in term[1] for item in pair]
    if term[0] == "case":
        return [term[1]] + [item for way in term[2] for item in way]
    return list(term[1:])


def term_of(head, items):
    """The term of which these are the head and the items."""
    if head == "rec":
        return ("rec", tuple(zip(items[::2], items[1::2])))
    if head == "case":
        return ("case", items[0], tuple(zip(items[1::3], items[2::3], items[3::3])))
    return (head, *items)


def term_parts(term):
    """The terms straight in a term, from left to right."""
    head = term[0]
    if head == "name":
        return []
    if head == "fun":
        return [term[2]]
    if head == "rec":
        return [pair[1] for pair in term[1]]
    if head == "case":
        return [term[1]] + [way[2] for way in term[2]]
    return [term[k] for k in TERMS_AT[head]]


def with_items(term, parts):
    """The items of a term with other things for the terms straight in it."""
    items = items_of(term)
    at = 0
    for k, sign in enumerate(layout_of(term[0], len(items))):
        if sign == "t":
            items[k] = parts[at]
            at += 1
    return items


def is_term(thing):
    """Whether the thing is a term."""
    names = []
    todo = [thing]
    while todo:
        part = todo.pop()
        if isinstance(part, tuple) and len(part) == 2 and part[0] == "name":
            names.append(part[1])
            continue
        more = names_for(part)
        if more is None:
            return False
        names.extend(more)
        todo.extend(term_parts(part))
    return all_names(names)


def is_made_as_term(thing):
    """Whether the thing is a term if what stands where its parts stand are terms."""
    names = names_for(thing)
    return names is not None and all_names(names)


def names_for(thing):
    """What all have to be names for the thing to be made as a term; None where it isn't made so else."""
    if not isinstance(thing, tuple) or not thing or not isinstance(thing[0], str):
        return None
    head = thing[0]
    if head == "rec":
        return () if len(thing) == 2 and is_row(thing[1], 2) else None
    if head == "case":
        if len(thing) != 3 or not is_row(thing[2], 3) or not thing[2]:
            return None
        return [way[1] for way in thing[2]]
    if head not in LAYOUTS or len(thing) != 1 + len(LAYOUTS[head]):
        return None
    if head == "name" or head == "fun":
        return thing[1:2]
    if head == "num":
        return () if is_number(thing[1]) and 0 <= thing[1] <= MOST else None
    return [thing[k] for k in NAMES_AT[head]]


def bindings(term, first, known, around):
    """The list, in order of places, of (part, which) for each place.

    What is bound by the ways of a case and by funs has numbers from first on; around is a dict of those of names that
    are bound around the term. Which, of a name, is the number of what binds it, what known has for it where nothing
    does, likewise of a from, None where it has nothing; of a fun and of a case the number of what it binds, of its
    first way; else None.
    """
    found = []
    free = first
    todo = [(term, around)]
    while todo:
        part, scope = todo.pop()
        head = part[0]
        which = None
        if head == "name":
            which = scope.get(part[1])
            if which is None:
                which = known.get(part[1])
        elif head == "from":
            which = known.get((part[1], part[2]))
        elif head == "fun":
            which = free
            free += 1
            todo.append((part[2], {**scope, part[1]: which}))
        elif head == "case":
            which = free
            free += len(part[2])
            todo.append((part[1], scope))
            for number, way in enumerate(part[2], start=which):
                todo.append((way[2], {**scope, way[1]: number}))
        else:
            for inner in term_parts(part):
                todo.append((inner, scope))
        found.append((part, which))
    return found[::-1]


def is_place(thing):
    """Whether the thing is a tuple of numbers."""
    return isinstance(thing, tuple) and all([is_number(item) for item in thing])


def places_of(term):
    """The list of all places, those in a part ahead of its whole, parts from left to right."""
    return [place for place, _ in placed_parts(term)]


def placed_parts(term):
    """The list, in order of places, of (place, part)."""
    found = []
    todo = [((), term)]
    while todo:
        place, part = todo.pop()
        found.append((place, part))
        for k, inner in enumerate(term_parts(part)):
            todo.append((place + (k,), inner))
    return found[::-1]


def things_in(term):
    """How many places there are."""
    return len(all_in(term, term_parts))


def part_at(term, place):
    """The part at that place; NoPlace(place)."""
    return way_to(term, place)[-1]


def with_at(term, place, other):
    """The term with the other one in that place; NoPlace(place)."""
    around = way_to(term, place)
    made = other
    for k, whole in zip(place[::-1], around[-2::-1]):
        parts = term_parts(whole)
        parts[k] = made
        made = term_of(whole[0], with_items(whole, parts))
    return made


def way_to(term, place):
    """The list of the terms from the whole to the part at that place; NoPlace(place)."""
    way = [term]
    for k in place:
        parts = term_parts(way[-1])
        if k < 0 or k >= len(parts):
            raise NoPlace(place)
        way.append(parts[k])
    return way


def named_in(term):
    """The list, in order of places, of (place, what) of names that aren't bound, and of froms."""
    found = []
    for place, (part, which) in zip(places_of(term), bindings(term, 0, {}, {})):
        if part[0] == "from":
            found.append((place, (part[1], part[2])))
        elif part[0] == "name" and which is None:
            found.append((place, part[1]))
    return found
