"""Kinds under way: a graph of nodes, made equal by pairs, as open as can be."""

from sealedkinds.kinds import kind_parts
from sealedkinds.walking import folded


class Solver:
    """Nodes, each for a kind that is as yet open or known to its parts, and rests of recs and sums.

    A node's shape is None while it is open, else the kind's tuple with nodes for the kinds straight in it,
    of a rec or a sum (head, dict of label and node, rest). A rest is a number of its own or None;
    it is open, or is known to be more labels and another rest.

    No rest ever stands behind unlike labels: kinds come in so, and joining two rows keeps it.
    So a rest is never asked for a label that it stands behind.
    """

    def __init__(self):
        self.links = []
        self.shapes = []
        self.rests = []

    def made(self, shape):
        """A new node of that shape."""
        self.links.append(len(self.links))
        self.shapes.append(shape)
        return len(self.links) - 1

    def fresh(self):
        """A new open node."""
        return self.made(None)

    def fresh_rest(self):
        """A new open rest."""
        self.rests.append(None)
        return len(self.rests) - 1

    def brought(self, kind):
        """A node of that kind, its numbers apart from all others."""
        numbers = {}
        return folded(kind, kind_parts, lambda part, nodes: self.made_of(part, nodes, numbers))

    def made_of(self, kind, nodes, numbers):
        """A node of that kind by the nodes of its parts, its number as numbers tells, which then know it."""
        head = kind[0]
        if head == "any":
            if kind[1] not in numbers:
                numbers[kind[1]] = self.fresh()
            return numbers[kind[1]]
        if head == "fun":
            return self.made(("fun", nodes[0], nodes[1]))
        if head == "num" or head == "own":
            return self.made(kind)
        rest = kind[2]
        if rest is not None and rest not in numbers:
            numbers[rest] = self.fresh_rest()
        labels = [pair[0] for pair in kind[1]]
        return self.made((head, dict(zip(labels, nodes)), None if rest is None else numbers[rest]))

    def root(self, node):
        """The node that stands for all that are equal to this one."""
        top = node
        while self.links[top] != top:
            top = self.links[top]
        self.links[node] = top
        return top

    def equal(self, one, other):
        """Makes two nodes equal; whether they can be, but for kinds within themselves."""
        todo = [(one, other)]
        while todo:
            pair = todo.pop()
            left = self.root(pair[0])
            right = self.root(pair[1])
            if left != right:
                inner = self.joined(left, right)
                if inner is None:
                    return False
                todo.extend(inner)
        return True

    def joined(self, left, right):
        """Joins two roots; the pairs of nodes that then have to be equal, None where the two can't be."""
        one = self.shapes[left]
        other = self.shapes[right]
        if other is None:
            self.links[right] = left
            return []
        self.links[left] = right
        if one is None:
            return []
        if one[0] != other[0]:
            return None
        if one[0] == "fun":
            return [(one[1], other[1]), (one[2], other[2])]
        if one[0] in ("rec", "sum"):
            return self.rows_joined(one, other)
        return [] if one == other else None

    def rows_joined(self, one, other):
        """Likewise of the shapes of two recs or two sums."""
        mine, end = self.row_of(one)
        yours, stop = self.row_of(other)
        only_mine = {label: mine[label] for label in mine if label not in yours}
        only_yours = {label: yours[label] for label in yours if label not in mine}
        if (end is None and only_yours) or (stop is None and only_mine):
            return None
        if end != stop:
            rest = None if end is None or stop is None else self.fresh_rest()
            if end is not None:
                self.rests[end] = (only_yours, rest)
            if stop is not None:
                self.rests[stop] = (only_mine, rest)
        return [(mine[label], yours[label]) for label in mine if label in yours]

    def row_of(self, shape):
        """The nodes of all labels known of a rec or sum, and the open rest behind them, or None."""
        pairs = dict(shape[1])
        rest = shape[2]
        while rest is not None and self.rests[rest] is not None:
            more, rest = self.rests[rest]
            pairs.update(more)
        return pairs, rest

    def inner(self, node):
        """The roots of the kinds straight in a root's, from left to right."""
        shape = self.shapes[node]
        if shape is None or shape[0] == "num" or shape[0] == "own":
            return []
        if shape[0] == "fun":
            return [self.root(shape[1]), self.root(shape[2])]
        pairs, _ = self.row_of(shape)
        return [self.root(pairs[label]) for label in sorted(pairs)]

    def ordered(self, nodes):
        """The roots of the nodes and all in them, each once, parts ahead of wholes, from left to right.

        None where a kind would be within itself.
        """
        ended = {}
        found = []
        todo = [self.root(node) for node in nodes[::-1]]
        while todo:
            node = todo[-1]
            if node not in ended:
                ended[node] = False
                for part in self.inner(node)[::-1]:
                    if part not in ended:
                        todo.append(part)
                    elif not ended[part]:
                        return None
            else:
                todo.pop()
                if not ended[node]:
                    ended[node] = True
                    found.append(node)
        return found

    def within(self, nodes, size, deep):
        """Whether the kinds of all these nodes have at most so many things and are at most so deep."""
        found = self.ordered(nodes)
        if found is None:
            return False
        sizes = {}
        depths = {}
        for node in found:
            parts = self.inner(node)
            sizes[node] = 1 + sum([sizes[part] for part in parts])
            depths[node] = 1 + max([depths[part] for part in parts], default=0)
        return max(sizes.values(), default=0) <= size and max(depths.values(), default=0) <= deep

    def kinds_of(self, nodes):
        """The list of the kinds of these nodes, numbers from 0 on as they first come in all of it.

        None where a kind would be within itself.
        """
        found = self.ordered(nodes)
        if found is None:
            return None
        kinds = {}
        numbers = {}
        for node in found:
            kinds[node] = self.kind_by(node, kinds, numbers)
        return [kinds[self.root(node)] for node in nodes]

    def kind_by(self, node, kinds, numbers):
        """The kind of a root by the kinds of its parts, numbered as numbers tells, which then know it."""
        shape = self.shapes[node]
        if shape is None:
            return ("any", numbers.setdefault(("any", node), len(numbers)))
        if shape[0] == "num" or shape[0] == "own":
            return shape
        parts = [kinds[part] for part in self.inner(node)]
        if shape[0] == "fun":
            return ("fun", parts[0], parts[1])
        pairs, rest = self.row_of(shape)
        if rest is not None:
            rest = numbers.setdefault(("rest", rest), len(numbers))
        return (shape[0], tuple(zip(sorted(pairs), parts)), rest)
