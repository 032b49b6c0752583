"""Modules made by a seeded chance, for the tests."""

from sealedkinds.kinds import told
from sealedkinds.kindtext import kind_in
from sealedkinds.termtext import term_in
from tests.things import chance_kind, chance_term

PLAIN_KINDS = tuple(kind_in(text) for text in (
    "num", "(fun num num)", "(rec a num b num)", "(sum a num b (rec))", "(rec)", "(rec l (fun num num))"))


def renamed(kind, module):
    """The kind, its sealed ones all of that module and of k."""
    if kind[0] == "own":
        return ("own", module if kind[1] == "m" else "k", kind[2])
    if kind[0] == "fun":
        return ("fun", renamed(kind[1], module), renamed(kind[2], module))
    if kind[0] in ("rec", "sum"):
        return (kind[0], tuple((label, renamed(part, module)) for label, part in kind[1]), kind[2])
    return kind


def chance_module(chance, name="m"):
    """A module of any sort, which may well have a fault; its seals are s and t."""
    uses = tuple(sorted(chance.sample(("a", "b", "k", "abcdefgh"), chance.randint(0, 3))))
    seals = (("s", chance.choice(PLAIN_KINDS)), ("t", chance.choice(PLAIN_KINDS)))
    names = sorted(chance.sample(("f", "g", "x", "y", "zz"), chance.randint(0, 4)))
    values = tuple((x, told(renamed(chance_kind(chance, 3), name))) for x in names)
    many = chance.randint(1, 4)
    defs = tuple((x, chance_term(chance, 3)) for x in chance.sample(("f", "g", "x", "y", "zz"), many))
    return (name, uses, seals, values, defs)


# definitions of which modules may be made that often have no fault, and what may be told of them
DEFS = tuple((term_in(text), tuple(kind_in(kind) for kind in kinds)) for text, kinds in (
    ("7", ("num", "M.s", "*0")), ("(fun y y)", ("(fun *0 *0)", "(fun M.s M.s)", "(fun num M.s)", "(fun M.s num)", "(fun *0 *1)")),
    ("(fun y (add y 1))", ("(fun num num)", "(fun M.s M.s)", "(fun num M.s)", "(fun *0 *0)")),
    ("(fun y (rec a y b 1))", ("(fun *0 (rec a *0 b num))", "(fun M.t (rec a M.t b M.s))", "(fun num M.t)")),
    ("(fun y (get y a))", ("(fun (rec a *0 *1) *0)", "(fun M.t num)", "(fun (rec a num) num)", "(fun (rec *1) num)")),
    ("(fun y (tag a y))", ("(fun *0 (sum a *0 *1))", "(fun M.s (sum a M.s b num))", "(fun *0 (sum a *0))")),
    ("(fun y (case y a z z b z 0))", ("(fun (sum a num b *0) num)", "(fun (sum a M.s b M.t) M.s)")),
    ("(rec a 1 b 2)", ("(rec a num b num)", "M.t", "(rec a M.s b num)", "(rec a num)")),
    ("(fun n (under n 1 0 (add 1 (call OWN n))))", ("(fun num num)", "(fun M.s num)")),
    ("(call x 1)", ("num", "*0")), ("(call K.f x)", ("num", "K.s", "*0")), ("(rec a x b K.f)", ("*0",)), ("(add (rec) 1)", ("num",)),
    ("(call K.g K.f)", ("num", "K.s", "K.t")), ("K.f", ("K.s", "num", "(fun num num)", "(fun *0 *0)", "(fun K.s K.s)", "(fun K.s num)")),
    ("K.g", ("(rec a K.t)", "num", "(fun K.t num)")), ("(call K.h (call K.h 1))", ("num", "*0")), ("?", ("num", "*0", "M.s", "K.t")),
) for text in (text.replace("K.", "k.").replace("OWN", "f"),) for kinds in (tuple(kind.replace("M.", "m.").replace("K.", "k.") for kind in kinds),))


def with_names(thing, names):
    """The term or kind with other names for what stands behind own, from and name."""
    if not isinstance(thing, tuple):
        return thing
    if thing[:1] in (("own",), ("from",)):
        return (thing[0], names.get(thing[1], thing[1]), thing[2])
    if thing[:1] == ("name",):
        return ("name", names.get("@" + thing[1], thing[1]))
    return tuple(with_names(part, names) for part in thing)


def likely_module(chance, name, uses):
    """A module that often has no fault, by faces of the modules that it uses."""
    seals = (("s", kind_in("num")), ("t", kind_in("(rec a num b num)")))[:chance.choice((2, 2, 2, 1, 0))]
    defs, values = [], []
    for x in ("f", "g", "h", "x")[:chance.randint(1, 4)]:
        term, kinds = chance.choice(DEFS)
        names = {"m": name, "k": chance.choice(uses) if uses else "k", "@f": x}
        if any(x == other for other, _ in defs):
            continue
        defs.append((x, with_names(term, names)))
        if chance.random() < 0.7:
            kind = with_names(chance.choice(kinds), names)
            if has_seals(kind, name, [seal for seal, _ in seals]):
                values.append((x, kind))
    if chance.random() < 0.05:
        values.append(("none", kind_in("num")))
    return (name, tuple(sorted(uses)), tuple(seals), tuple(sorted(values)), tuple(defs))


def has_seals(kind, name, seals):
    if kind[0] == "own":
        return kind[1] != name or kind[2] in seals
    if kind[0] == "fun":
        return has_seals(kind[1], name, seals) and has_seals(kind[2], name, seals)
    return kind[0] not in ("rec", "sum") or all(has_seals(part, name, seals) for _, part in kind[1])


def likely_whole(chance):
    """A whole of up to four modules, which may well have faults."""
    modules = []
    for name in ("a", "b", "c", "d")[:chance.randint(1, 4)]:
        ahead = [module[0] for module in modules]
        uses = chance.sample(ahead, chance.randint(0, min(2, len(ahead))))
        if chance.random() < 0.1:
            uses.append("far")
        modules.append(likely_module(chance, name, uses))
    return modules
