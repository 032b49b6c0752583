"""Slow, plain versions of what is done with modules, straight after the document, to compare with."""

from tests import plain


def owns(kind):
    """All (M, T) in a kind."""
    found = [kind[1:]] if kind[0] == "own" else []
    for part in plain.inner(kind):
        found += owns(part)
    return found


def opened(kind, seals):
    """The kind with what is in seals, a dict by (M, T), for its sealed kinds."""
    if kind[0] == "own":
        return seals.get(kind[1:], kind)
    if kind[0] == "fun":
        return ("fun", opened(kind[1], seals), opened(kind[2], seals))
    if kind[0] in ("rec", "sum"):
        return (kind[0], tuple((label, opened(part, seals)) for label, part in kind[1]), kind[2])
    return kind


def comes_to(kind, other):
    """Whether what both come to is no less open than the other one; the other one's numbers made into sealed kinds."""
    fixed = other
    for way, n in sorted(set(plain.numbers_of(other)), key=str):
        fixed = plain.put_in(fixed, n, ("own", "FIXED", str(n)) if way == "any" else ((("FIXED", ("own", "REST", str(n))),), None))
    return plain.solved([(plain.numbered(kind, lambda way, n: n + 1000), fixed)], plain.counter(10000)) is not None


def are_names(thing):
    return type(thing) is tuple and all(plain.is_name(name) for name in thing) and list(thing) == sorted(set(thing))


def are_pairs(thing):
    return type(thing) is tuple and all(type(item) is tuple and len(item) == 2 and plain.is_name(item[0]) for item in thing)


def are_values(thing, name, mine):
    if not are_pairs(thing) or not are_names(tuple(item[0] for item in thing)):
        return False
    for _, kind in thing:
        if not plain.is_kind(kind) or plain.told(kind) != kind or any(m == name and t not in mine for m, t in owns(kind)):
            return False
    return True


def is_module(thing):
    if type(thing) is not tuple or len(thing) != 5 or not plain.is_name(thing[0]):
        return False
    name, uses, seals, values, defs = thing
    if not are_names(uses) or name in uses or not are_pairs(seals) or not are_names(tuple(item[0] for item in seals)):
        return False
    if any(not plain.is_kind(kind) or plain.numbers_of(kind) or owns(kind) for _, kind in seals):
        return False
    if not are_values(values, name, [seal for seal, _ in seals]) or not are_pairs(defs) or defs == ():
        return False
    return len({x for x, _ in defs}) == len(defs) and all(plain.is_term(term) for _, term in defs)


def is_face(thing):
    return (type(thing) is tuple and len(thing) == 3 and plain.is_name(thing[0]) and are_names(thing[1])
            and are_values(thing[2], thing[0], thing[1]))


def module_text(module):
    name, uses, seals, values, defs = module
    text = f"module {name}"
    if uses:
        text += "\nuses " + " ".join(uses)
    for seal, kind in seals:
        text += f"\nseal {seal} {plain.kind_text(kind)}"
    for x, kind in values:
        text += f"\ntell {x} {plain.kind_text(kind)}"
    for x, term in defs:
        text += f"\nlet {x} {plain.term_text(term)}"
    return text


def whole_module(text):
    """The module of which this is the text; None."""
    parts = {"module": [], "uses": [], "seal": [], "tell": [], "let": []}
    for row in text.split("\n"):
        words = row.split(" ", 2)
        if words[0] in ("module", "uses"):
            parts[words[0]].append(row.split(" ")[1:])
        elif words[0] not in parts or len(words) < 3:
            return None
        else:
            parts[words[0]].append((words[1], plain.term_in(words[2]) if words[0] == "let" else plain.kind_in(words[2])))
    if len(parts["module"]) != 1 or len(parts["module"][0]) != 1 or len(parts["uses"]) > 1:
        return None
    uses = tuple(parts["uses"][0]) if parts["uses"] else ()
    module = (parts["module"][0][0], uses, tuple(parts["seal"]), tuple(parts["tell"]), tuple(parts["let"]))
    return module if is_module(module) and module_text(module) == text else None


def module_in(text):
    """The module of which this is the text; else the number of the first row that is wrong, or how many there are."""
    rows = text.split("\n")
    for many in range(1, len(rows) + 1):
        # What may stand there is what could go on so: a definition of another name may always stand behind.
        if whole_module("\n".join(rows[:many]) + "\nlet zzzzzzzz 1") is None:
            return many - 1
    return whole_module(text) or len(rows)


def known_of_faces(module, faces):
    return [((face[0], x), kind) for face in faces if face[0] in module[1] for x, kind in face[2]]


def states(module, faces):
    return states_by(module, known_of_faces(module, faces), [], (100, 16))


def states_by(module, known, without, bounds):
    known, without = list(known), list(without)
    found = []
    for x, term in module[4]:
        state = None
        for place, part, scope in plain.spots(term):
            what = part[1] if part[0] == "name" else part[1:]
            if part[0] not in ("name", "from") or what in [name for name, _ in scope] or what == x:
                continue
            if what in without:
                state = ("leans", part[-1])
            elif what not in [name for name, _ in known]:
                state = ("unknown", place)
            if state is not None:
                break
        state = state or plain.kind_of(term, known, x, bounds)
        found.append((x,) + state)
        if state[0] == "kind":
            known.append((x, state[1]))
        else:
            without.append(x)
    return found


def fault_of(module, faces):
    return fault_by(module, faces, states(module, faces))


def fault_by(module, faces, tolds):
    """The fault by what states tells, or by other such triples."""
    name, uses, seals, values, _ = module
    by_name = {face[0]: face for face in faces}
    for use in uses:
        if use not in by_name:
            return ("use", use)
    for x, kind in values:
        for m, t in owns(kind):
            if m != name and not (m in uses and t in by_name[m][1]):
                return ("told", x)
    found = {}
    for x, word, what in tolds:
        if word != "kind":
            return ("def", x)
        found[x] = what
    opens = {(name, seal): kind for seal, kind in seals}
    for x, kind in values:
        if x not in found:
            return ("none", x)
        if not comes_to(opened(found[x], opens), opened(kind, opens)):
            return ("closed", x)
    return None


def face_of(module):
    return (module[0], tuple(seal for seal, _ in module[2]), module[3])


def faults(modules):
    found = [(module[0], fault_of(module, [face_of(other) for other in modules[:k]])) for k, module in enumerate(modules)]
    return [(name, fault) for name, fault in found if fault is not None]


def is_whole(thing):
    if type(thing) is not list or not all(is_module(module) for module in thing):
        return False
    names = [module[0] for module in thing]
    return len(set(names)) == len(names) and all(
        use not in names or names.index(use) < k for k, module in enumerate(thing) for use in module[1])


def whole_states(modules):
    found = []
    for module in modules:
        known = [((m, x), what) for m, x, word, what in found if m in module[1] and word == "kind"]
        without = [(m, x) for m, x, word, _ in found if m in module[1] and word != "kind"]
        found += [(module[0],) + state for state in states_by(module, known, without, (800, 24))]
    return found


def all_opens(modules):
    return {(module[0], seal): kind for module in modules for seal, kind in module[2]}
