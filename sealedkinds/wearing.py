"""Modules whose seals are worn otherwise: by the rec of a label around what is sealed.

All definitions stay as they are, those of values in whose kinds the sealed one stands under other names. The values
themselves turn what is handed out and in.
"""

from sealedkinds.errors import NoSeal, NoWear
from sealedkinds.kinds import kind_parts
from sealedkinds.names import fresh_name
from sealedkinds.terms import named_in, term_parts, with_at
from sealedkinds.walking import all_in


def worn(module, seal, label):
    """The module with (rec label K) for the K of that seal, alike to all users; NoSeal(seal), NoWear(x)."""
    name, uses, seals, values, defs = module
    if seal not in [own for own, _ in seals]:
        raise NoSeal(seal)
    sealed = ("own", name, seal)
    for x, kind in values:
        if is_in_open_sum(sealed, kind):
            raise NoWear(x)
    changed = [(own, ("rec", ((label, kind),), None) if own == seal else kind) for own, kind in seals]
    turned = [(x, kind) for x, kind in values if stands_in(sealed, kind)]
    names = names_beside(defs, [x for x, _ in turned])
    made = [(names.get(x, x), renamed(term, names)) for x, term in defs]
    for x, kind in turned:
        turner = Turner(sealed, label, names[x])
        made.append((x, turner.turned(kind, turner.old, True)))
    return (name, uses, tuple(changed), values, tuple(made))


def stands_in(sealed, kind):
    """Whether that sealed kind stands in the kind."""
    return sealed in all_in(kind, kind_parts)


def is_in_open_sum(sealed, kind):
    """Whether that sealed kind stands in a sum with a rest in the kind."""
    sums = [part for part in all_in(kind, kind_parts) if part[0] == "sum" and part[2] is not None]
    return any([stands_in(sealed, part) for part in sums])


def names_beside(defs, names):
    """A dict of another name for each of these, such as is neither defined nor bound in the definitions."""
    taken = {x: True for x, _ in defs}
    for _, term in defs:
        for part in all_in(term, term_parts):
            if part[0] == "fun":
                taken[part[1]] = True
            elif part[0] == "case":
                taken.update({way[1]: True for way in part[2]})
    found = {}
    for x in names:
        found[x] = fresh_name(taken)
        taken[found[x]] = True
    return found


def renamed(term, names):
    """The term with other names for those that aren't bound and have one."""
    made = term
    for place, what in named_in(term):
        if what in names:
            made = with_at(made, place, ("name", names[what]))
    return made


class Turner:
    """Makes the term that turns what the value of that other name tells, so that its users have it as it's worn.

    What stands there twice or later is bound first: so all is begun when and as often as without the label.
    """

    def __init__(self, sealed, label, old):
        self.sealed = sealed
        self.label = label
        self.old = ("name", old)
        self.bound = {old: True}

    def fresh(self):
        """A name that isn't bound so far."""
        x = fresh_name(self.bound)
        self.bound[x] = True
        return x

    def turned(self, kind, term, out):
        """The term, of that kind, with what is sealed in it put in the label's rec, or, where not out, taken out."""
        if not stands_in(self.sealed, kind):
            return term
        if kind[0] == "own":
            return ("rec", ((self.label, term),)) if out else ("get", term, self.label)
        if kind[0] == "sum":
            return self.turned_sum(kind, term, out)
        if term[0] != "name" or term == self.old:
            x = self.fresh()
            inside = self.turned(kind, ("name", x), out)
            return ("case", ("tag", self.label, term), ((self.label, x, inside),))
        return self.turned_fun(kind, term, out) if kind[0] == "fun" else self.turned_rec(kind, term, out)

    def turned_sum(self, kind, term, out):
        """Likewise of a sum: the same tag, with what it has turned."""
        ways = []
        for label, part in kind[1]:
            x = self.fresh()
            ways.append((label, x, ("tag", label, self.turned(part, ("name", x), out))))
        return ("case", term, tuple(ways))

    def turned_fun(self, kind, term, out):
        """Likewise of a function: what it's handed is turned the other way round."""
        x = self.fresh()
        handed = self.turned(kind[1], ("name", x), not out)
        return ("fun", x, self.turned(kind[2], ("call", term, handed), out))

    def turned_rec(self, kind, term, out):
        """Likewise of a rec: what it has more stays there."""
        made = term
        for label, part in kind[1]:
            if stands_in(self.sealed, part):
                made = ("put", made, label, self.turned(part, ("get", term, label), out))
        return made
