"""Slow, plain versions of what the program does, straight after the document, to compare with.

They share nothing with the package: kinds are rebuilt whole at each step, and all goes by calls within calls.
"""

import re
import string


def is_name(thing):
    return isinstance(thing, str) and 1 <= len(thing) <= 8 and all(sign in string.ascii_lowercase for sign in thing)


def is_count(thing):
    return type(thing) is int and thing >= 0


def is_kind(thing):
    return kind_within(thing, {})


def kind_within(thing, ways):
    if type(thing) is not tuple or thing == ():
        return False
    if thing == ("num",):
        return True
    if thing[0] == "any" and len(thing) == 2 and is_count(thing[1]):
        return ways.setdefault(thing[1], "any") == "any"
    if len(thing) != 3:
        return False
    if thing[0] == "own":
        return is_name(thing[1]) and is_name(thing[2])
    if thing[0] == "fun":
        return kind_within(thing[1], ways) and kind_within(thing[2], ways)
    if thing[0] not in ("rec", "sum") or type(thing[1]) is not tuple or (thing[0] == "sum" and not thing[1]):
        return False
    labels = []
    for pair in thing[1]:
        if type(pair) is not tuple or len(pair) != 2 or not is_name(pair[0]) or not kind_within(pair[1], ways):
            return False
        labels.append(pair[0])
    if labels != sorted(set(labels)):
        return False
    if thing[2] is None:
        return True
    return is_count(thing[2]) and ways.setdefault(thing[2], (thing[0], labels)) == (thing[0], labels)


def kind_text(kind):
    if kind[0] == "num":
        return "num"
    if kind[0] == "any":
        return f"*{kind[1]}"
    if kind[0] == "own":
        return f"{kind[1]}.{kind[2]}"
    if kind[0] == "fun":
        return f"(fun {kind_text(kind[1])} {kind_text(kind[2])})"
    inner = "".join(f" {label} {kind_text(part)}" for label, part in kind[1])
    return f"({kind[0]}{inner}{'' if kind[2] is None else f' *{kind[2]}'})"


def grouped(text):
    """The text as a word or a list of such, by its brackets; None where they are out."""
    levels = [[]]
    for sign in re.findall(r"[()]|[^() ]+", text):
        if sign == "(":
            levels.append([])
        elif sign != ")":
            levels[-1].append(sign)
        elif len(levels) == 1:
            return None
        else:
            last = levels.pop()
            levels[-1].append(last)
    return levels[0][0] if len(levels) == 1 and len(levels[0]) == 1 else None


def kind_in(text):
    """The kind of which this is the text; None where there's none."""
    try:
        kind = kind_by(grouped(text))
    except (ValueError, TypeError, IndexError):
        return None
    return kind if is_kind(kind) and kind_text(kind) == text else None


def kind_by(group):
    if isinstance(group, str):
        if group[0] == "*":
            return ("any", int(group[1:]))
        return ("num",) if group == "num" else ("own", *group.split("."))
    if group[0] == "fun":
        return ("fun", *map(kind_by, group[1:]))
    rest = int(group.pop()[1:]) if len(group) % 2 == 0 else None
    return (group[0], tuple((group[k], kind_by(group[k + 1])) for k in range(1, len(group), 2)), rest)


def term_in(text):
    """The term of which this is the text; None where there's none."""
    try:
        term = term_by(grouped(text))
    except (ValueError, TypeError, IndexError):
        return None
    return term if is_term(term) and term_text(term) == text else None


def term_by(group):
    if isinstance(group, str):
        if group == "?":
            return ("hole",)
        if group[0] in string.digits:
            return ("num", int(group))
        return ("from", *group.split(".")) if "." in group else ("name", group)
    head = group[0]
    if head == "rec":
        return ("rec", tuple((group[k], term_by(group[k + 1])) for k in range(1, len(group), 2)))
    if head == "case":
        ways = tuple((group[k], group[k + 1], term_by(group[k + 2])) for k in range(2, len(group), 3))
        return ("case", term_by(group[1]), ways)
    words = {"fun": [1], "get": [2], "put": [2], "tag": [1]}.get(head, [])
    return (head, *(item if k in words else term_by(item) for k, item in enumerate(group[1:], start=1)))


def is_term(thing):
    if type(thing) is not tuple or thing == ():
        return False
    many = len(thing)
    head = thing[0]
    if head == "num":
        return many == 2 and type(thing[1]) is int and 0 <= thing[1] <= 99990
    if head == "name":
        return many == 2 and is_name(thing[1])
    if head == "from":
        return many == 3 and is_name(thing[1]) and is_name(thing[2])
    if head == "hole":
        return many == 1
    if head in ("fun", "tag"):
        return many == 3 and is_name(thing[1]) and is_term(thing[2])
    if head in ("call", "add", "less", "times"):
        return many == 3 and is_term(thing[1]) and is_term(thing[2])
    if head == "under":
        return many == 5 and all(is_term(part) for part in thing[1:])
    if head == "get":
        return many == 3 and is_term(thing[1]) and is_name(thing[2])
    if head == "put":
        return many == 4 and is_term(thing[1]) and is_name(thing[2]) and is_term(thing[3])
    if head == "rec":
        return many == 2 and are_ways(thing[1], 2)
    return head == "case" and many == 3 and is_term(thing[1]) and are_ways(thing[2], 3) and thing[2] != ()


def are_ways(thing, many):
    if type(thing) is not tuple or any(type(way) is not tuple or len(way) != many for way in thing):
        return False
    if not all(is_name(name) for way in thing for name in way[:-1]) or not all(is_term(way[-1]) for way in thing):
        return False
    labels = [way[0] for way in thing]
    return labels == sorted(set(labels))


def inner(kind):
    if kind[0] == "fun":
        return [kind[1], kind[2]]
    return [part for _, part in kind[1]] if kind[0] in ("rec", "sum") else []


def size_of(kind):
    return 1 + sum(size_of(part) for part in inner(kind))


def deep_of(kind):
    return 1 + max((deep_of(part) for part in inner(kind)), default=0)


def numbered(kind, number_for):
    """The kind with number_for(way, n) for each n, as they come from left to right."""
    if kind[0] == "any":
        return ("any", number_for("any", kind[1]))
    if kind[0] == "fun":
        left = numbered(kind[1], number_for)
        return ("fun", left, numbered(kind[2], number_for))
    if kind[0] in ("rec", "sum"):
        pairs = tuple((label, numbered(part, number_for)) for label, part in kind[1])
        return (kind[0], pairs, None if kind[2] is None else number_for(kind[0], kind[2]))
    return kind


def told(kind):
    seen = {}
    return numbered(kind, lambda way, n: seen.setdefault(n, len(seen)))


def numbers_of(kind):
    """A list of (way, n) as they come."""
    seen = []
    numbered(kind, lambda way, n: seen.append((way, n)))
    return seen


def put_in(kind, number, what):
    """The kind with what, a kind or a pair (pairs, rest), put for the number."""
    if kind == ("any", number):
        return what
    if kind[0] == "fun":
        return ("fun", put_in(kind[1], number, what), put_in(kind[2], number, what))
    if kind[0] in ("rec", "sum"):
        pairs = [(label, put_in(part, number, what)) for label, part in kind[1]]
        rest = kind[2]
        if rest == number and rest is not None:
            pairs = pairs + list(what[0])
            rest = what[1]
        assert len({label for label, _ in pairs}) == len(pairs)
        return (kind[0], tuple(sorted(pairs)), rest)
    return kind


def put_all(kind, puts):
    """The kind with all puts, a dict, at once: what is put stays as it is."""
    far = 1000000
    for number in puts:
        kind = put_in(kind, number, ("any", far + number) if puts[number][0] in HEADS else ((), far + number))
    for number in puts:
        kind = put_in(kind, far + number, puts[number])
    return kind


HEADS = ("num", "any", "own", "fun", "rec", "sum")


def solved(equations, fresh):
    """The list of (number, what) that, put one after another, make all equations hold, as open as can be; None."""
    todo = list(equations)
    puts = []
    while todo:
        left, right = todo.pop(0)
        found = step(left, right, fresh)
        if found is None:
            return None
        new, more = found
        todo = more + todo
        for number, what in new:
            if any(n == number for n, _ in puts):
                raise AssertionError("put twice")
            inside = [what] if what[0] in HEADS else [part for _, part in what[0]]
            if any(number == n for kind in inside for _, n in numbers_of(kind)):
                return None
            puts.append((number, what))
            todo = [(put_in(one, number, what), put_in(other, number, what)) for one, other in todo]
    return puts


def step(left, right, fresh):
    """What to put, and what has to be equal else, for two kinds to be equal; None where they can't."""
    if left == right:
        return [], []
    if left[0] == "any":
        return [(left[1], right)], []
    if right[0] == "any":
        return [(right[1], left)], []
    if left[0] != right[0] or left[0] in ("num", "own"):
        return None
    if left[0] == "fun":
        return [], [(left[1], right[1]), (left[2], right[2])]
    mine, yours = dict(left[1]), dict(right[1])
    only_mine = tuple(pair for pair in left[1] if pair[0] not in yours)
    only_yours = tuple(pair for pair in right[1] if pair[0] not in mine)
    more = [(mine[label], yours[label]) for label in mine if label in yours]
    if left[2] == right[2]:
        return None if only_mine or only_yours else ([], more)
    if left[2] is None:
        return None if only_yours else ([(right[2], (only_mine, None))], more)
    if right[2] is None:
        return None if only_mine else ([(left[2], (only_yours, None))], more)
    if not only_yours:
        return [(right[2], (only_mine, left[2]))], more
    # One after another, so that what is put first is put into what is put behind it.
    first = (left[2], (only_yours, fresh()))
    return [first], [(put_in(left, *first), put_in(right, *first))]


def after(kind, puts):
    for number, what in puts:
        kind = put_in(kind, number, what)
    return kind


def counter(start):
    state = [start]

    def fresh():
        state[0] += 1
        return state[0]
    return fresh


def meet(kind, other):
    apart = numbered(other, lambda way, n: n + 1000)
    puts = solved([(kind, apart)], counter(10000))
    return None if puts is None else told(after(kind, puts))


def parts(term):
    """A list of (part, name bound ahead of it)."""
    head = term[0]
    if head == "fun":
        return [(term[2], term[1])]
    if head == "rec":
        return [(part, None) for _, part in term[1]]
    if head == "case":
        return [(term[1], None)] + [(part, x) for _, x, part in term[2]]
    places = {"call": (1, 2), "add": (1, 2), "less": (1, 2), "times": (1, 2), "under": (1, 2, 3, 4),
              "get": (1,), "put": (1, 3), "tag": (2,)}
    return [(term[k], None) for k in places.get(head, ())]


def spots(term, place=(), scope=()):
    """All (place, part, scope) in order, the scope a tuple of (x, place of the term behind it), nearest last."""
    found = []
    for k, (part, name) in enumerate(parts(term)):
        here = place + (k,)
        found += spots(part, here, scope if name is None else scope + ((name, here),))
    return found + [(place, term, scope)]


def term_text(term):
    head = term[0]
    if head == "num":
        return f"{term[1]}"
    if head in ("name", "from"):
        return ".".join(term[1:])
    if head == "hole":
        return "?"
    if head == "rec":
        return "(rec" + "".join(f" {label} {term_text(part)}" for label, part in term[1]) + ")"
    if head == "case":
        ways = "".join(f" {label} {x} {term_text(part)}" for label, x, part in term[2])
        return f"(case {term_text(term[1])}{ways})"
    return f"({head} " + " ".join(item if isinstance(item, str) else term_text(item) for item in term[1:]) + ")"


class Look:
    """The equations of the rules of a term's places."""

    def __init__(self, term, known, own, bounds=(100, 16)):
        self.bounds = bounds
        self.fresh = counter(0)
        self.known = list(known)
        self.own = own
        self.spots = spots(term)
        self.at = {place: ("any", self.fresh()) for place, _, _ in self.spots}
        self.bound = {}

    def of_bound(self, place):
        if place not in self.bound:
            self.bound[place] = ("any", self.fresh())
        return self.bound[place]

    def of_known(self, what):
        for name, kind in self.known:
            if name == what:
                new = {}
                return numbered(kind, lambda way, n: new[n] if n in new else new.setdefault(n, self.fresh()))
        return None

    def of_name(self, what, scope):
        for name, place in reversed(scope):
            if name == what:
                return self.of_bound(place)
        if self.own is not None and what == self.own:
            return self.at[()]
        return self.of_known(what)

    def unknown(self):
        for place, part, scope in self.spots:
            if part[0] == "name" and self.of_name(part[1], scope) is None:
                return place
            if part[0] == "from" and self.of_known(part[1:]) is None:
                return place
        return None

    def rule(self, place, part, scope):
        head = part[0]
        here = self.at[place]
        kinds = [self.at[place + (k,)] for k in range(len(parts(part)))]
        num = ("num",)
        if head == "num":
            return [(here, num)]
        if head == "name":
            return [(here, self.of_name(part[1], scope))]
        if head == "from":
            return [(here, self.of_known(part[1:]))]
        if head == "hole":
            return []
        if head == "fun":
            return [(here, ("fun", self.of_bound(place + (0,)), kinds[0]))]
        if head == "call":
            return [(kinds[0], ("fun", kinds[1], here))]
        if head in ("add", "less", "times"):
            return [(here, num), (kinds[0], num), (kinds[1], num)]
        if head == "under":
            return [(kinds[0], num), (kinds[1], num), (kinds[2], here), (kinds[3], here)]
        if head == "rec":
            return [(here, ("rec", tuple((pair[0], kind) for pair, kind in zip(part[1], kinds)), None))]
        if head == "get":
            return [(kinds[0], ("rec", ((part[2], here),), self.fresh()))]
        if head == "put":
            rest = self.fresh()
            return [(kinds[0], ("rec", ((part[2], ("any", self.fresh())),), rest)),
                    (here, ("rec", ((part[2], kinds[1]),), rest))]
        if head == "tag":
            return [(here, ("sum", ((part[1], kinds[0]),), self.fresh()))]
        pairs = tuple((way[0], self.of_bound(place + (k + 1,))) for k, way in enumerate(part[2]))
        return [(kinds[0], ("sum", pairs, None))] + [(kind, here) for kind in kinds[1:]]

    def kinds(self, chosen):
        """A dict of the kinds of all places by the rules of the chosen ones; None where they can't be kept."""
        equations = []
        for place, part, scope in self.spots:
            if place in chosen:
                equations += self.rule(place, part, scope)
        puts = solved(equations, self.fresh)
        if puts is None:
            return None
        found = {place: after(kind, puts) for place, kind in self.at.items()}
        if any(size_of(kind) > self.bounds[0] or deep_of(kind) > self.bounds[1] for kind in found.values()):
            return None
        return found


def kind_of(term, known, own=None, bounds=(100, 16)):
    """("kind", K), ("unknown", place) or ("clash", place)."""
    place = Look(term, known, own).unknown()
    if place is not None:
        return ("unknown", place)
    places = [spot[0] for spot in spots(term)]
    found = Look(term, known, own, bounds).kinds(places)
    if found is not None:
        return ("kind", told(found[()]))
    for many in range(1, len(places) + 1):
        if Look(term, known, own, bounds).kinds(places[:many]) is None:
            return ("clash", places[many - 1])
    raise AssertionError("no clash found")
