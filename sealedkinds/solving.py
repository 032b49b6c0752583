"""Kinds under way: a graph of nodes, made equal by pairs, as open as can be."""

from sealedkinds.known import Known
from sealedkinds.walking import alike

NUM = 0
LEAF = (1, 1)


class Solver:
    """Nodes, each for a kind that is as yet open or known to its parts, and rests of recs and sums.

    A node that is equal to another one links to it; one that links to itself stands for all that lead to it.
    Its shape is None while it is open, else the kind's tuple with nodes for the kinds straight in it,
    of a rec or a sum (head, dict of label and node, rest). A rest is a number of its own or None;
    it is open, or is known to be more labels and another rest. The shape of a known kind without numbers is
    ("closed", known) as long as nothing asks for its parts; all names of which that is known share the node.

    No rest ever stands behind unlike labels: kinds come in so, and joining two rows keeps it.
    So a rest is never asked for a label that it stands behind.
    """

    def __init__(self, many):
        """The node of num, and so many open ones behind it."""
        self.links = list(range(1 + many))
        self.shapes = [None] * (1 + many)
        self.shapes[NUM] = ("num",)
        self.rests = []
        self.closed = {}

    def made(self, shape):
        """A new node of that shape."""
        node = len(self.links)
        self.links.append(node)
        self.shapes.append(shape)
        return node

    def fresh_rest(self):
        """A new open rest."""
        self.rests.append(None)
        return len(self.rests) - 1

    def brought(self, kind):
        """A node of that kind, its numbers apart from all others."""
        numbers = {}
        todo = []
        top = self.placed(kind, numbers, todo)
        while todo:
            part, node = todo.pop()
            head = part[0]
            if head == "fun":
                left = self.placed(part[1], numbers, todo)
                self.shapes[node] = (head, left, self.placed(part[2], numbers, todo))
            else:
                rest = part[2]
                if rest is not None:
                    if rest not in numbers:
                        numbers[rest] = self.fresh_rest()
                    rest = numbers[rest]
                pairs = {label: self.placed(inner, numbers, todo) for label, inner in part[1]}
                self.shapes[node] = (head, pairs, rest)
        return top

    def placed(self, kind, numbers, todo):
        """A node for the kind, its number as numbers tells, which then know it; what has parts is left to do."""
        head = kind[0]
        if head == "num":
            return NUM
        if head == "any":
            if kind[1] not in numbers:
                numbers[kind[1]] = self.made(None)
            return numbers[kind[1]]
        node = self.made(kind)
        if head != "own":
            todo.append((kind, node))
        return node

    def node_of(self, known):
        """A node of what is known, its numbers apart from all others."""
        if known in self.closed:
            return self.closed[known]
        if known.size_and_deep() is None:
            return self.brought(known.kind)
        self.closed[known] = self.closed_node(known.kind, known)
        return self.closed[known]

    def closed_node(self, kind, known):
        """A node of a kind without numbers, known so."""
        if kind[0] == "num":
            return NUM
        return self.made(kind if kind[0] == "own" else ("closed", known))

    def shape_of(self, node):
        """The shape of a root; one that is closed is taken apart."""
        shape = self.shapes[node]
        if shape is None or shape[0] != "closed":
            return shape
        kind = shape[1].kind
        if kind[0] == "fun":
            shape = ("fun", self.closed_node(kind[1], Known(kind[1])), self.closed_node(kind[2], Known(kind[2])))
        else:
            shape = (kind[0], {label: self.closed_node(part, Known(part)) for label, part in kind[1]}, None)
        self.shapes[node] = shape
        return shape

    def root(self, node):
        """The node that stands for all that are equal to this one."""
        links = self.links
        while links[node] != node:
            node = links[node]
        return node

    def equal(self, one, other):
        """Makes two nodes equal; whether they can be, but for kinds within themselves."""
        links = self.links
        shapes = self.shapes
        todo = [(one, other)]
        while todo:
            left, right = todo.pop()
            while links[left] != left:
                left = links[left]
            while links[right] != right:
                right = links[right]
            if left == right:
                continue
            if shapes[right] is None:
                links[right] = left
            elif shapes[left] is None:
                links[left] = right
            elif not self.joined(left, right, todo):
                return False
        return True

    def joined(self, left, right, todo):
        """Joins two roots that have shapes, and adds the pairs that then have to be equal; whether they can be."""
        one = self.shapes[left]
        other = self.shapes[right]
        if one[0] == "closed" and other[0] == "closed":
            self.links[left] = right
            return alike(one[1].kind, other[1].kind)
        one = self.shape_of(left)
        other = self.shape_of(right)
        head = one[0]
        if head != other[0]:
            return False
        if head == "fun":
            todo.append((one[2], other[2]))
            todo.append((one[1], other[1]))
        elif head == "own":
            if one != other:
                return False
        elif head != "num":
            return self.rows_joined(left, right, todo)
        self.links[left] = right
        return True

    def rows_joined(self, left, right, todo):
        """Likewise of two recs or two sums."""
        _, mine, end = self.row(left)
        _, yours, stop = self.row(right)
        only_mine = {}
        for label in mine:
            if label in yours:
                todo.append((mine[label], yours[label]))
            else:
                only_mine[label] = mine[label]
        only_yours = {}
        if len(mine) - len(only_mine) < len(yours):
            only_yours = {label: yours[label] for label in yours if label not in mine}
        if (end is None and only_yours) or (stop is None and only_mine):
            return False
        if end != stop:
            rest = None if end is None or stop is None else self.fresh_rest()
            if end is not None:
                self.rests[end] = (only_yours, rest)
            if stop is not None:
                self.rests[stop] = (only_mine, rest)
        self.links[left] = right
        return True

    def row(self, node):
        """The shape of a root that is a rec or a sum, with all labels known and the open rest behind them, or None."""
        shape = self.shapes[node]
        rest = shape[2]
        if rest is None or self.rests[rest] is None:
            return shape
        pairs = dict(shape[1])
        while rest is not None and self.rests[rest] is not None:
            more, rest = self.rests[rest]
            pairs.update(more)
        self.shapes[node] = (shape[0], pairs, rest)
        return self.shapes[node]

    def field(self, head, node, label):
        """The node at that label, where the node is made a rec or a sum that has it; None where it can't be one."""
        top = self.root(node)
        shape = self.shape_of(top)
        if shape is None:
            inside = self.made(None)
            self.shapes[top] = (head, {label: inside}, self.fresh_rest())
            return inside
        if shape[0] != head:
            return None
        _, pairs, rest = self.row(top)
        if label in pairs:
            return pairs[label]
        if rest is None:
            return None
        inside = self.made(None)
        self.rests[rest] = ({label: inside}, self.fresh_rest())
        return inside

    def inner(self, node):
        """The nodes of the kinds straight in a root's, from left to right; none of one that is closed."""
        shape = self.shapes[node]
        if shape is None or shape[0] == "num" or shape[0] == "own" or shape[0] == "closed":
            return []
        if shape[0] == "fun":
            return [shape[1], shape[2]]
        pairs = self.row(node)[1]
        return [pairs[label] for label in sorted(pairs)]

    def within(self, nodes, wide, deep):
        """Whether the kinds of all these nodes have at most so many things and are at most so deep."""
        measures = {}
        links = self.links
        for node in nodes:
            while links[node] != node:
                node = links[node]
            if node not in measures:
                measure = self.measure(node, wide, deep, measures)
                if measure is None or measure[1] > deep:
                    return False
        return True

    def measure(self, node, wide, left, measures):
        """How great and how deep the kind of a root is; None where it's too great, or deeper than is left.

        A kind within itself is deeper than any. What has been told is in measures, by roots; not yet of this one.
        """
        links = self.links
        if left == 0:
            return None
        shape = self.shapes[node]
        if shape is None or shape[0] == "num" or shape[0] == "own":
            measures[node] = LEAF
            return LEAF
        if shape[0] == "closed":
            measures[node] = shape[1].size_and_deep()
            return measures[node] if measures[node][0] <= wide else None
        size = 1
        deepest = 0
        for part in self.inner(node):
            while links[part] != part:
                part = links[part]
            measure = measures.get(part)
            if measure is None:
                measure = self.measure(part, wide, left - 1, measures)
            if measure is None:
                return None
            size += measure[0]
            deepest = max(deepest, measure[1])
        if size > wide:
            return None
        measures[node] = (size, 1 + deepest)
        return measures[node]

    def kinds_of(self, nodes):
        """The list of the kinds of these nodes, numbers from 0 on as they first come in all of it.

        None where a kind would be within itself.
        """
        kinds = {}
        numbers = {}
        parts = {}
        todo = [self.root(node) for node in nodes[::-1]]
        while todo:
            node = todo.pop()
            if node < 0:
                # The mark of a root whose parts are all known by now.
                whole = -1 - node
                kinds[whole] = self.kind_by(whole, [kinds[part] for part in parts[whole]], numbers)
            elif node not in kinds:
                shape = self.shapes[node]
                if shape is not None and shape[0] == "closed":
                    kinds[node] = shape[1].kind
                    continue
                inner = [self.root(part) for part in self.inner(node)]
                if not inner:
                    kinds[node] = self.kind_by(node, inner, numbers)
                    continue
                # None: it's under way.
                kinds[node] = None
                parts[node] = inner
                todo.append(-1 - node)
                for part in inner[::-1]:
                    if part not in kinds:
                        todo.append(part)
                    elif kinds[part] is None:
                        return None
        return [kinds[self.root(node)] for node in nodes]

    def kind_by(self, node, parts, numbers):
        """The kind of a root by the kinds of its parts, numbered as numbers tells, which then know it."""
        shape = self.shapes[node]
        if shape is None:
            return ("any", numbers.setdefault(("any", node), len(numbers)))
        if shape[0] == "num" or shape[0] == "own":
            return shape
        if shape[0] == "fun":
            return ("fun", parts[0], parts[1])
        _, pairs, rest = shape
        if rest is not None:
            rest = numbers.setdefault(("rest", rest), len(numbers))
        return (shape[0], tuple(zip(sorted(pairs), parts)), rest)
