"""Kinds, terms and other things made by a seeded chance, for the tests."""

LABELS = ("a", "b", "c", "d")
NAMES = ("x", "y", "f", "g")


def chance_kind(chance, deep, numbers=5):
    """A kind; its numbers stand in one way each: by number, anys, rests of recs, rests of sums."""
    ways = {}

    def made(left):
        head = chance.choice(("num", "any", "any", "own", "fun", "rec", "sum") if left > 1 else ("num", "any", "own"))
        if head == "num":
            return ("num",)
        if head == "any":
            free = [n for n in range(numbers) if ways.get(n, "any") == "any"]
            if not free:
                return ("num",)
            n = chance.choice(free)
            ways[n] = "any"
            return ("any", n)
        if head == "own":
            return ("own", chance.choice(("m", "k")), chance.choice(("s", "t")))
        if head == "fun":
            left_one = made(left - 1)
            return ("fun", left_one, made(left - 1))
        many = chance.randint(1 if head == "sum" else 0, 3)
        labels = sorted(chance.sample(LABELS, many))
        rest = None
        free = [n for n in range(numbers) if ways.get(n, (head, labels)) == (head, labels)]
        if free and chance.random() < 0.5:
            rest = chance.choice(free)
            ways[rest] = (head, labels)
        return (head, tuple((label, made(left - 1)) for label in labels), rest)

    return made(deep)


def chance_term(chance, deep, names=NAMES):
    """A term that names names and froms of the module m."""
    leaves = ("num", "name", "name", "name", "from", "hole")
    inner = ("fun", "fun", "call", "call", "add", "less", "times", "under", "rec", "get", "put", "tag", "case")
    head = chance.choice(leaves if deep <= 1 else leaves[:3] + inner)

    def part():
        return chance_term(chance, deep - 1, names)

    if head == "num":
        return ("num", chance.choice((0, 1, 7, 99990)))
    if head == "name":
        return ("name", chance.choice(names))
    if head == "from":
        return ("from", "m", chance.choice(names))
    if head == "hole":
        return ("hole",)
    if head == "fun":
        return ("fun", chance.choice(names), part())
    if head in ("call", "add", "less", "times"):
        return (head, part(), part())
    if head == "under":
        return (head, part(), part(), part(), part())
    if head == "get":
        return ("get", part(), chance.choice(LABELS))
    if head == "put":
        return ("put", part(), chance.choice(LABELS), part())
    if head == "tag":
        return ("tag", chance.choice(LABELS), part())
    labels = sorted(chance.sample(LABELS, chance.randint(1 if head == "case" else 0, 3)))
    if head == "rec":
        return ("rec", tuple((label, part()) for label in labels))
    return ("case", part(), tuple((label, chance.choice(names), part()) for label in labels))


def chance_thing(chance, deep):
    """Anything made of numbers, True, False, None, texts, lists and tuples."""
    leaves = (0, 1, -1, 7, 10 ** 30, True, False, None, "", "a", "b", "num", "any", "own", "fun", "rec", "sum", "name",
              "from", "hole", "call", "add", "under", "get", "put", "tag", "case", "Ab", "toolongname", "*0", "\u00e4")
    if deep <= 1 or chance.random() < 0.3:
        return chance.choice(leaves)
    items = [chance_thing(chance, deep - 1) for _ in range(chance.randint(0, 4))]
    return items if chance.random() < 0.3 else tuple(items)


def deep_things(deep):
    """Things that are so deep, of several makes."""
    found = []
    for wrap in (lambda t: [t], lambda t: (t,), lambda t: ("fun", ("num",), t), lambda t: ("fun", "x", t),
                 lambda t: ("rec", (("a", t),), None), lambda t: ("rec", (("a", t),)), lambda t: ("num", t),
                 lambda t: ("any", t), lambda t: ("case", ("hole",), (("a", "x", t),)), lambda t: [0, (t, None)]):
        thing = "a"
        for _ in range(deep):
            thing = wrap(thing)
        found.append(thing)
    return found


def spoiled(thing):
    """The thing with one thing otherwise in it, at each place in it and in several ways."""
    found = [None, True, False, -1, 0, "", "a", "A", "abcdefghi", (), [], (thing,), [thing]]
    if isinstance(thing, tuple):
        found.append(list(thing))
        found.append(thing + (None,))
        found.append(thing + (0,))
        for k, item in enumerate(thing):
            found.append(thing[:k] + thing[k + 1:])
            found.append(thing[:k] + (item,) + thing[k:])
            found += [thing[:k] + (other,) + thing[k + 1:] for other in spoiled(item)]
        found.append(thing[::-1])
    if isinstance(thing, str):
        found += [thing + "x", thing.upper(), thing[1:], thing + " ", thing + "\u00e4", (thing,)]
    if type(thing) is int:
        found += [thing + 1, -thing - 1, str(thing), 99990, 99991]
    return found


def spoiled_texts(text):
    """The text with one thing otherwise, at any place."""
    signs = " ()*.?0123456789abnumx\n\tA-+%\u00e4\u0660\u00b2"
    found = ["", " ", "()", text + text, text + " " + text]
    for k in range(len(text) + 1):
        found += [text[:k] + sign + text[k:] for sign in signs]
        found.append(text[:k])
        found.append(text[k:])
        if k < len(text):
            found.append(text[:k] + text[k + 1:])
            found += [text[:k] + sign + text[k + 1:] for sign in signs]
        if k + 1 < len(text):
            found.append(text[:k] + text[k + 1] + text[k] + text[k + 2:])
    words = text.split(" ")
    for k in range(len(words)):
        found.append(" ".join(words[:k] + words[k + 1:]))
        found.append(" ".join(words[:k] + [words[k]] + words[k:]))
    return found
