"""The rule of each place of a term, kept in a solver.

A rule takes the solver, the part at the place, what is known of it or the node of what it binds, and the list of nodes
under way, whose last ones are those of the places straight in it: these it takes off. It tells the node of the place;
None where it can't be kept.
"""

from sealedkinds.solving import NUM


def num_rule(solver, part, what, under_way):
    """num."""
    return NUM


def name_rule(solver, part, what, under_way):
    """The kind of the bound name or of the whole, or one to which the known kind comes; likewise of a from."""
    return what if isinstance(what, int) else solver.node_of(what)


def hole_rule(solver, part, what, under_way):
    """Any."""
    return solver.made(None)


def fun_rule(solver, part, what, under_way):
    """(fun K L), K that of the bound name, L that of its term."""
    return solver.made(("fun", what, under_way.pop()))


def call_rule(solver, part, what, under_way):
    """The first part has (fun K L), the other one K, itself L."""
    handed = under_way.pop()
    function = solver.root(under_way.pop())
    shape = solver.shape_of(function)
    if shape is None:
        here = solver.made(None)
        solver.shapes[function] = ("fun", handed, here)
        return here
    if shape[0] != "fun" or not solver.equal(shape[1], handed):
        return None
    return shape[2]


def reckon_rule(solver, part, what, under_way):
    """All num."""
    right = under_way.pop()
    left = under_way.pop()
    return NUM if solver.equal(left, NUM) and solver.equal(right, NUM) else None


def under_rule(solver, part, what, under_way):
    """Two nums, and two as itself."""
    instead = under_way.pop()
    then = under_way.pop()
    if reckon_rule(solver, part, what, under_way) is None or not solver.equal(then, instead):
        return None
    return then


def rec_rule(solver, part, what, under_way):
    """The rec of its pairs' kinds, rest None."""
    pairs = {}
    for label, _ in part[1][::-1]:
        pairs[label] = under_way.pop()
    return solver.made(("rec", pairs, None))


def get_rule(solver, part, what, under_way):
    """The part a rec that has the label, itself that kind."""
    return solver.field("rec", under_way.pop(), part[2])


def put_rule(solver, part, what, under_way):
    """The first part a rec that has the label, itself the same but the other one's kind there."""
    new = under_way.pop()
    whole = under_way.pop()
    label = part[2]
    if solver.field("rec", whole, label) is None:
        return None
    _, pairs, rest = solver.row(solver.root(whole))
    pairs = dict(pairs)
    pairs[label] = new
    return solver.made(("rec", pairs, rest))


def tag_rule(solver, part, what, under_way):
    """A sum that has the label, with the part's kind."""
    return solver.made(("sum", {part[1]: under_way.pop()}, solver.fresh_rest()))


def case_rule(solver, part, what, under_way):
    """The first part the sum of just these labels, each name the kind of its label, each way's term as itself."""
    here = under_way.pop()
    for _ in part[2][1:]:
        if not solver.equal(under_way.pop(), here):
            return None
    pairs = {way[0]: node for node, way in enumerate(part[2], start=what)}
    if not solver.equal(under_way.pop(), solver.made(("sum", pairs, None))):
        return None
    return here


RULES = {
    "num": num_rule, "name": name_rule, "from": name_rule, "hole": hole_rule, "fun": fun_rule, "call": call_rule,
    "add": reckon_rule, "less": reckon_rule, "times": reckon_rule, "under": under_rule, "rec": rec_rule,
    "get": get_rule, "put": put_rule, "tag": tag_rule, "case": case_rule,
}
