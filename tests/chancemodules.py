"""Modules made by a seeded chance, for the tests."""

from sealedkinds.apart import states
from sealedkinds.kinds import told
from sealedkinds.kindtext import kind_in
from sealedkinds.modules import face_of
from sealedkinds.termtext import term_in
from tests.things import chance_kind, chance_term

PLAIN_KINDS = tuple(kind_in(text) for text in (
    "num", "(fun num num)", "(rec a num b num)", "(sum a num b (rec))", "(rec)", "(rec l (fun num num))"))


def renamed(kind, module):
    """The kind, its sealed ones all of that module and of k."""
    if kind[0] == "own":
        return ("own", module if kind[1] == "m" else "k", kind[2])
    if kind[0] == "fun":
        return ("fun", renamed(kind[1], module), renamed(kind[2], module))
    if kind[0] in ("rec", "sum"):
        return (kind[0], tuple((label, renamed(part, module)) for label, part in kind[1]), kind[2])
    return kind


def chance_module(chance, name="m"):
    """A module of any sort, which may well have a fault; its seals are s and t."""
    uses = tuple(sorted(chance.sample(("a", "b", "k", "abcdefgh"), chance.randint(0, 3))))
    seals = (("s", chance.choice(PLAIN_KINDS)), ("t", chance.choice(PLAIN_KINDS)))
    names = sorted(chance.sample(("f", "g", "x", "y", "zz"), chance.randint(0, 4)))
    values = tuple((x, told(renamed(chance_kind(chance, 3), name))) for x in names)
    many = chance.randint(1, 4)
    defs = tuple((x, chance_term(chance, 3)) for x in chance.sample(("f", "g", "x", "y", "zz"), many))
    return (name, uses, seals, values, defs)


# definitions, most of which have a kind
TEXTS = (
    "7", "(fun y y)", "(fun y (add y 1))", "(fun y (rec a y b 1))", "(fun y (get y a))", "(fun y (tag a y))", "(rec a 1 b 2)", "?",
    "(fun y (case y a z z b z 0))", "(fun n (under n 1 0 (add 1 (call OWN n))))", "(fun y (put y a 1))", "(fun y (fun z (call y (call y z))))",
)
# likewise, with what is known for K
KNOWING = ("K", "K", "K", "(rec a K)", "(rec a K b K)", "(fun y K)", "(call (fun y y) K)", "(call K ?)", "(fun y (call K y))", "(add K 1)", "(get K a)", "(tag a K)", "(call K 1)")
WRONG = ("(add (rec) 1)", "(call q 1)", "(call far.q 1)", "(rec a (call 1 1))")


def with_own(chance, kind, name):
    """The kind with seals of that module here and there, and with kinds for its numbers."""
    if kind[0] == "any" and chance.random() < 0.1:
        return chance.choice((("num",), ("own", name, "s"), ("rec", (), None)))
    if kind == ("num",) and chance.random() < 0.3:
        return ("own", name, "s")
    if kind == ("rec", (("a", ("num",)), ("b", ("num",))), None) and chance.random() < 0.5:
        return ("own", name, "t")
    if kind[0] == "fun":
        return ("fun", with_own(chance, kind[1], name), with_own(chance, kind[2], name))
    if kind[0] in ("rec", "sum"):
        pairs = tuple((label, with_own(chance, part, name)) for label, part in kind[1])
        return (kind[0], pairs, None if chance.random() < 0.1 else kind[2])
    return kind


def likely_module(chance, name, ahead):
    """A module that often has no fault, by the faces of some of those ahead, which it uses."""
    faces = [face_of(module) for module in chance.sample(ahead, chance.randint(0, min(2, len(ahead))))]
    uses = [face[0] for face in faces] + (["far"] if chance.random() < 0.05 else [])
    known = [f"{face[0]}.{x}" for face in faces for x, _ in face[2]]
    defs = []
    for x in ("f", "g", "h", "x")[:chance.randint(1, 4)]:
        text = chance.choice(WRONG if chance.random() < 0.04 else KNOWING if known and chance.random() < 0.6 else TEXTS)
        defs.append((x, term_in(text.replace("OWN", x).replace("K", chance.choice(known or ["1"])))))
        known.append(x)
    seals = (("s", kind_in("num")), ("t", kind_in("(rec a num b num)")))[:chance.choice((2, 2, 2, 2, 1, 0))]
    values = {}
    for x, word, what in states((name, uses, (), (), defs), faces):
        kind = told(with_own(chance, what if word == "kind" else chance_kind(chance, 2, numbers=0), name))
        if chance.random() < 0.7 and has_seals(kind, name, [seal for seal, _ in seals]):
            values[x] = kind
    if chance.random() < 0.04:
        values["none"] = kind_in("num")
    return (name, tuple(sorted(uses)), seals, tuple(sorted(values.items())), tuple(defs))


def has_seals(kind, name, seals):
    if kind[0] == "own":
        return kind[1] != name or kind[2] in seals
    if kind[0] == "fun":
        return has_seals(kind[1], name, seals) and has_seals(kind[2], name, seals)
    return kind[0] not in ("rec", "sum") or all(has_seals(part, name, seals) for _, part in kind[1])


def likely_whole(chance):
    """A whole of up to four modules, which may well have faults."""
    modules = []
    for name in ("a", "b", "c", "d")[:chance.randint(1, 4)]:
        modules.append(likely_module(chance, name, modules))
    return modules
