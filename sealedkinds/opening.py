"""What is as open: kinds that come to others, and what two kinds both come to."""

from sealedkinds.solving import Solver
from sealedkinds.walking import alike


def comes_to(kind, other):
    """Whether the kind comes to the other one."""
    return put_for(kind, other) is not None


def put_for(kind, other):
    """The rising list of (number, what is put for it), by which the kind comes to the other; None where it doesn't."""
    puts = {}
    todo = [(kind, other)]
    while todo:
        one, two = todo.pop()
        inner = put_straight(one, two, puts)
        if inner is None:
            return None
        todo.extend(inner)
    return [(number, puts[number]) for number in sorted(puts)]


def put_straight(kind, other, puts):
    """The pairs of parts that have to come to one another; None where the kind can't come to the other.

    What has to be put for the number straight in the kind is then in puts.
    """
    head = kind[0]
    if head == "any":
        return [] if put_alike(puts, kind[1], other) else None
    if head != other[0]:
        return None
    if head == "fun":
        return [(kind[1], other[1]), (kind[2], other[2])]
    if head == "rec" or head == "sum":
        return put_row(kind, other, puts)
    return [] if kind == other else None


def put_row(kind, other, puts):
    """Likewise of two recs or two sums."""
    mine = dict(kind[1])
    yours = dict(other[1])
    more = tuple([pair for pair in other[1] if pair[0] not in mine])
    if len(more) + len(mine) != len(yours):
        return None
    if kind[2] is not None:
        if not put_alike(puts, kind[2], (more, other[2])):
            return None
    elif more or other[2] is not None:
        return None
    return [(mine[label], yours[label]) for label in mine]


def put_alike(puts, number, what):
    """Whether this may be put for the number, as what was put for it; puts then know it."""
    return alike(puts.setdefault(number, what), what)


def meet(kind, other):
    """The told kind to which both come, as open as can be, numbers of the two being apart; None where there's none."""
    solver = Solver()
    node = solver.brought(kind)
    if not solver.equal(node, solver.brought(other)):
        return None
    kinds = solver.kinds_of([node])
    return None if kinds is None else kinds[0]
