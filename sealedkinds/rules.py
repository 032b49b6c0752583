"""The rule of each place of a term, as pairs of kinds that have to be equal."""

from sealedkinds.solving import Solver
from sealedkinds.terms import bound_in, scoped, term_parts


class Places:
    """The kinds under way of all places of a term, and of the names bound in it.

    A spot is a triple (place, part, scope) as scoped tells; nodes has a node for each place,
    bound one for each name that is bound, by the place of the term ahead of which it is.
    """

    def __init__(self, term, known, own):
        self.solver = Solver()
        self.spots = scoped(term)
        self.known = {what: kind for what, kind in known}
        self.own = own
        self.nodes = {spot[0]: self.solver.fresh() for spot in self.spots}
        self.bound = {}
        for place, part, _ in self.spots:
            for k, name in enumerate(bound_in(part)):
                if name is not None:
                    self.bound[place + (k,)] = self.solver.fresh()

    def is_unknown(self, spot):
        """Whether a name or a from stands there that is neither bound, own nor known."""
        _, part, scope = spot
        if part[0] == "from":
            return (part[1], part[2]) not in self.known
        return part[0] == "name" and part[1] not in scope and part[1] != self.own and part[1] not in self.known

    def keep(self, spot):
        """Keeps the rule of that place, too; whether it can be, but for kinds within themselves."""
        rule = RULES[spot[1][0]]
        for one, other in rule(self, spot):
            if not self.solver.equal(one, other):
                return False
        return True

    def within(self, size, deep):
        """Whether all places have kinds of at most so many things and at most so deep."""
        return self.solver.within(list(self.nodes.values()), size, deep)

    def here(self, spot):
        """The node of that place."""
        return self.nodes[spot[0]]

    def parts(self, spot):
        """The nodes of the places straight in that one."""
        place, part, _ = spot
        return [self.nodes[place + (k,)] for k in range(len(term_parts(part)))]

    def row(self, head, label, node):
        """A node of a rec or a sum that has the label with that kind, and perhaps more."""
        return self.solver.made((head, {label: node}, self.solver.fresh_rest()))

    def num(self):
        """A node of num."""
        return self.solver.made(("num",))


def num_rule(places, spot):
    """num."""
    return [(places.here(spot), places.num())]


def name_rule(places, spot):
    """The kind of the bound name, of the whole, or one to which the known kind comes."""
    _, part, scope = spot
    name = part[1]
    if name in scope:
        node = places.bound[scope[name]]
    elif name == places.own:
        node = places.nodes[()]
    else:
        node = places.solver.brought(places.known[name])
    return [(places.here(spot), node)]


def from_rule(places, spot):
    """A kind to which the known kind comes."""
    part = spot[1]
    return [(places.here(spot), places.solver.brought(places.known[(part[1], part[2])]))]


def hole_rule(places, spot):
    """Any."""
    return []


def fun_rule(places, spot):
    """(fun K L), K that of the bound name, L that of its term."""
    inside = places.parts(spot)[0]
    shape = ("fun", places.bound[spot[0] + (0,)], inside)
    return [(places.here(spot), places.solver.made(shape))]


def call_rule(places, spot):
    """The first part has (fun K L), the other one K, itself L."""
    function, handed = places.parts(spot)
    return [(function, places.solver.made(("fun", handed, places.here(spot))))]


def reckon_rule(places, spot):
    """All num."""
    return [(node, places.num()) for node in [places.here(spot)] + places.parts(spot)]


def under_rule(places, spot):
    """Two nums, and two as itself."""
    left, right, then, instead = places.parts(spot)
    here = places.here(spot)
    return [(left, places.num()), (right, places.num()), (then, here), (instead, here)]


def rec_rule(places, spot):
    """The rec of its pairs' kinds, rest None."""
    labels = [pair[0] for pair in spot[1][1]]
    shape = ("rec", dict(zip(labels, places.parts(spot))), None)
    return [(places.here(spot), places.solver.made(shape))]


def get_rule(places, spot):
    """The part a rec that has the label, itself that kind."""
    whole = places.parts(spot)[0]
    return [(whole, places.row("rec", spot[1][2], places.here(spot)))]


def put_rule(places, spot):
    """The first part a rec that has the label, itself the same but the other one's kind there."""
    whole, new = places.parts(spot)
    label = spot[1][2]
    rest = places.solver.fresh_rest()
    ahead = places.solver.made(("rec", {label: places.solver.fresh()}, rest))
    behind = places.solver.made(("rec", {label: new}, rest))
    return [(whole, ahead), (places.here(spot), behind)]


def tag_rule(places, spot):
    """A sum that has the label, with the part's kind."""
    inside = places.parts(spot)[0]
    return [(places.here(spot), places.row("sum", spot[1][1], inside))]


def case_rule(places, spot):
    """The first part the sum of just these labels, each name the kind of its label, each way's term as itself."""
    place, part, _ = spot
    whole, *ends = places.parts(spot)
    pairs = {way[0]: places.bound[place + (k,)] for k, way in enumerate(part[2], start=1)}
    here = places.here(spot)
    return [(whole, places.solver.made(("sum", pairs, None)))] + [(node, here) for node in ends]


RULES = {
    "num": num_rule, "name": name_rule, "from": from_rule, "hole": hole_rule, "fun": fun_rule, "call": call_rule,
    "add": reckon_rule, "less": reckon_rule, "times": reckon_rule, "under": under_rule, "rec": rec_rule,
    "get": get_rule, "put": put_rule, "tag": tag_rule, "case": case_rule,
}
