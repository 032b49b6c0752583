"""What is as open: kinds that come to others, and what two kinds both come to."""

from sealedkinds.solving import Solver
from sealedkinds.walking import alike


def comes_to(kind, other):
    """Whether the kind comes to the other one."""
    return puts_for(kind, other) is not None


def put_for(kind, other):
    """The rising list of (number, what is put for it), by which the kind comes to the other; None where it doesn't."""
    puts = puts_for(kind, other)
    return None if puts is None else [(number, puts[number]) for number in sorted(puts)]


def puts_for(kind, other):
    """Likewise, as a dict of what is put by numbers."""
    puts = {}
    todo = [(kind, other)]
    while todo:
        one, two = todo.pop()
        head = one[0]
        if head == "any":
            if not put_alike(puts, one[1], two):
                return None
        elif head != two[0]:
            return None
        elif head == "fun":
            todo.append((one[1], two[1]))
            todo.append((one[2], two[2]))
        elif head == "rec" or head == "sum":
            if not put_row(one, two, puts, todo):
                return None
        elif one != two:
            return None
    return puts


def put_row(kind, other, puts, todo):
    """Puts for the rest of a rec or a sum what the other has more, and adds the parts that have to come to others.

    Whether that can be.
    """
    mine = dict(kind[1])
    more = []
    for pair in other[1]:
        part = mine.get(pair[0])
        if part is None:
            more.append(pair)
        elif part[0] != "num" and part[0] != "own":
            todo.append((part, pair[1]))
        elif part != pair[1]:
            return False
    if len(more) + len(mine) != len(other[1]):
        return False
    if kind[2] is None:
        return not more and other[2] is None
    return put_alike(puts, kind[2], (tuple(more), other[2]))


def put_alike(puts, number, what):
    """Whether this may be put for the number, as what was put for it; puts then know it."""
    if number in puts:
        return alike(puts[number], what)
    puts[number] = what
    return True


def meet(kind, other):
    """The told kind to which both come, as open as can be, numbers of the two being apart; None where there's none."""
    solver = Solver(0)
    node = solver.brought(kind)
    if not solver.equal(node, solver.brought(other)):
        return None
    kinds = solver.kinds_of([node])
    return None if kinds is None else kinds[0]
