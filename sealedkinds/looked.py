"""Terms made ready to be looked at."""

from sealedkinds.rules import RULES
from sealedkinds.solving import Solver
from sealedkinds.terms import bindings, places_of, term_parts

# The node of the whole term in each solver, and the first one of what is bound.
WHOLE = 1
FIRST = 2


class Looked:
    """A term to be looked at, in kinds of at most so many things and at most so deep.

    Kinds is a dict of what is known there. Spots has, in order of places, a pair (part, what) of each: what is the
    node of what a name stands for, or what is known of it, likewise of a from; of a fun and a case the node of the
    (first) name that it binds; else None. Unknown is the number of the first spot, in order, of a name or a from that
    stands for nothing; None.
    """

    def __init__(self, term, kinds, own, wide, deep):
        self.term = term
        self.wide = wide
        self.deep = deep
        self.spots = bindings(term, FIRST, kinds, {} if own is None else {own: WHOLE})
        self.unknown = None
        for number, (part, what) in enumerate(self.spots):
            if what is None and (part[0] == "name" or part[0] == "from"):
                self.unknown = number
                break

    def place(self, number):
        """The place of the spot of that number."""
        return places_of(self.term)[number]

    def keep(self, chosen=None, many=None):
        """Keeps the rules of the first so many spots, or of those of them that are chosen, a list of truths; else all.

        Told is (solver, nodes, broken): a node of each of these spots, and the number of the one whose rule couldn't be
        kept, but for kinds that are too great; None.
        """
        solver = Solver(1 + len(self.spots))
        nodes = []
        under_way = []
        for part, what in self.spots[:many]:
            if chosen is None or chosen[len(nodes)]:
                rule = RULES[part[0]]
                node = rule(solver, part, what, under_way)
                if node is None:
                    return solver, nodes, len(nodes)
            else:
                del under_way[len(under_way) - len(term_parts(part)):]
                node = solver.made(None)
            under_way.append(node)
            nodes.append(node)
        if len(nodes) == len(self.spots) and not solver.equal(WHOLE, nodes[-1]):
            return solver, nodes, len(nodes) - 1
        return solver, nodes, None

    def can_keep(self, chosen=None, many=None):
        """Whether these rules can be kept together, by kinds that aren't too great."""
        solver, nodes, broken = self.keep(chosen, many)
        return broken is None and solver.within(nodes, self.wide, self.deep)

    def told_kind(self):
        """The told kind; None where the rules can't be kept together."""
        solver, nodes, broken = self.keep()
        if broken is not None or not solver.within(nodes, self.wide, self.deep):
            return None
        return solver.kinds_of([nodes[-1]])[0]

    def state(self):
        """("kind", the told kind), or ("clash", the first place by which the rules can't be kept together)."""
        solver, nodes, broken = self.keep()
        clash = self.first_clash(solver, nodes, broken)
        if clash is not None:
            return "clash", self.place(clash)
        return "kind", solver.kinds_of([nodes[-1]])[0]

    def first_clash(self, solver, nodes, broken):
        """The number of the first spot by which the rules can't be kept together; None where they can.

        The three are told by keep, of all rules.
        """
        if broken is None and solver.within(nodes, self.wide, self.deep):
            return None
        last = len(self.spots) - 1 if broken is None else broken
        # Ahead of the rule that broke kinds may have become too great.
        first = last if self.can_keep(None, last) else 0
        while first < last:
            middle = (first + last) // 2
            if self.can_keep(None, middle + 1):
                first = middle + 1
            else:
                last = middle
        return last
