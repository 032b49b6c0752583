"""Kinds: what is one, how great it is, its numbers and its sealed kinds."""

from sealedkinds.names import is_name, is_number, is_row
from sealedkinds.walking import all_in, folded


def kind_parts(kind):
    """The kinds straight in a kind, from left to right."""
    if kind[0] == "fun":
        return [kind[1], kind[2]]
    if kind[0] in ("rec", "sum"):
        return [pair[1] for pair in kind[1]]
    return []


def with_kinds(kind, parts):
    """The kind with other kinds for those straight in it."""
    if kind[0] == "fun":
        return ("fun", parts[0], parts[1])
    if kind[0] in ("rec", "sum"):
        labels = [pair[0] for pair in kind[1]]
        return (kind[0], tuple(zip(labels, parts)), kind[2])
    return kind


def is_kind(thing):
    """Whether the thing is a kind."""
    return ways_and_owns(thing) is not None


def ways_and_owns(thing):
    """The dict of the ways in which the kind's numbers stand, and the list of (M, T) of its sealed kinds, as often as
    they come; None of what is no kind."""
    ways = {}
    owns = []
    todo = [thing]
    while todo:
        part = todo.pop()
        if not is_made_as_kind(part):
            return None
        head = part[0]
        if head == "own":
            owns.append((part[1], part[2]))
        elif head != "num":
            if not stands_as_before(part, ways):
                return None
            todo.extend(kind_parts(part))
    return ways, owns


def is_kind_within(thing, ways, wide, deep):
    """Whether the thing is a kind of at most so many things, and at most so deep.

    Its numbers have to stand as in the ways met so far, which then know them.
    """
    many = 0
    todo = [(thing, 1)]
    while todo:
        part, level = todo.pop()
        many += 1
        if many > wide or level > deep or not is_made_as_kind(part) or not stands_as_before(part, ways):
            return False
        for inner in kind_parts(part):
            todo.append((inner, level + 1))
    return True


def is_made_as_kind(thing):
    """Whether the thing is a kind if what stands where its parts stand are kinds."""
    if not isinstance(thing, tuple) or not thing:
        return False
    head = thing[0]
    if head == "num":
        return len(thing) == 1
    if head == "any":
        return len(thing) == 2 and is_count(thing[1])
    if head == "own":
        return len(thing) == 3 and is_name(thing[1]) and is_name(thing[2])
    if head == "fun":
        return len(thing) == 3
    if head == "rec" or head == "sum":
        return len(thing) == 3 and is_row(thing[1], 2) and is_rest(thing[2]) and (head == "rec" or len(thing[1]) > 0)
    return False


def is_count(thing):
    """Whether the thing is a number from 0 on."""
    return is_number(thing) and thing >= 0


def is_rest(thing):
    """Whether the thing may stand as a rest."""
    return thing is None or is_count(thing)


def stands_as_before(kind, ways):
    """Whether the number straight in the kind stands as in the ways met so far, which then know it."""
    if kind[0] == "any":
        way = ("any",)
        return ways.setdefault(kind[1], way) == way
    if kind[0] in ("rec", "sum") and kind[2] is not None:
        way = (kind[0], [pair[0] for pair in kind[1]])
        return ways.setdefault(kind[2], way) == way
    return True


def size_of(kind):
    """How many kinds it has, itself counted."""
    return len(all_in(kind, kind_parts))


def deep_of(kind):
    """1, or one more than the deepest kind in it."""
    return folded(kind, kind_parts, one_deeper)


def one_deeper(kind, depths):
    """How deep a kind is by how deep its parts are."""
    return 1 + max(depths, default=0)


def numbers_in(kind):
    """Its numbers as they come from left to right, as often as they come."""
    found = []
    todo = [kind]
    while todo:
        part = todo.pop()
        if isinstance(part, int):
            found.append(part)
        elif part[0] == "any":
            found.append(part[1])
        elif part[0] == "fun":
            todo.append(part[2])
            todo.append(part[1])
        elif part[0] == "rec" or part[0] == "sum":
            if part[2] is not None:
                todo.append(part[2])
            for pair in part[1][::-1]:
                todo.append(pair[1])
    return found


def is_told(kind):
    """Whether its numbers go from 0 on as they first come from left to right."""
    many = 0
    for number in numbers_in(kind):
        if number > many:
            return False
        if number == many:
            many += 1
    return True


def told(kind):
    """The kind with numbers anew, from 0 on as they first come from left to right."""
    if is_told(kind):
        return kind
    numbers = {}
    made = []
    todo = [kind]
    while todo:
        part = todo.pop()
        head = part[0]
        if head == "any":
            made.append(("any", numbers.setdefault(part[1], len(numbers))))
        elif head == "num" or head == "own":
            made.append(part)
        elif head == "end":
            end_told(part[1], made, numbers)
        else:
            # The mark behind its parts of what then can be made of them.
            todo.append(("end", part))
            todo.extend(kind_parts(part)[::-1])
    return made[0]


def end_told(kind, made, numbers):
    """Puts the told kind in the place of its told parts, which are the last ones made."""
    if kind[0] == "fun":
        right = made.pop()
        made[-1] = ("fun", made[-1], right)
        return
    start = len(made) - len(kind[1])
    pairs = [(pair[0], part) for pair, part in zip(kind[1], made[start:])]
    del made[start:]
    rest = kind[2]
    if rest is not None:
        rest = numbers.setdefault(rest, len(numbers))
    made.append((kind[0], tuple(pairs), rest))


def owns_in(kind):
    """The rising list of pairs (M, T) of its sealed kinds."""
    return sorted({(part[1], part[2]) for part in all_in(kind, kind_parts) if part[0] == "own"})


def opened(kind, opens):
    """The kind with K for each sealed kind of M and T, of the list opens of (M, T, K)."""
    if not opens or not has_own(kind):
        return kind
    seals = {(module, name): inside for module, name, inside in opens}
    return folded(kind, kind_parts, lambda part, parts: unsealed(part, parts, seals))


def has_own(kind):
    """Whether a sealed kind stands in it."""
    todo = [kind]
    while todo:
        part = todo.pop()
        if part[0] == "own":
            return True
        todo.extend(kind_parts(part))
    return False


def unsealed(kind, parts, seals):
    """The kind with other parts, or what is within its seal."""
    if kind[0] == "own":
        return seals.get((kind[1], kind[2]), kind)
    return with_kinds(kind, parts)
