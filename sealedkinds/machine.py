"""Runs under way: what is begun, step by step, without calls within calls.

While it's under way a function is ("fun", x, code, scope), its scope a dict of the worths of bound names; all other
worths are as they are told.

A code is a term made ready: (rule, term, spot, codes), codes those of the terms straight in it. A rule takes the run,
the code and the scope; what it still has to do it leaves with the run, by rules, the first one to be done the last.
"""

from sealedkinds.errors import Bare, Met, NoValue, TooLong
from sealedkinds.terms import MOST, placed_parts, term_parts


class Program:
    """The definitions of modules, each made ready when it is first begun."""

    def __init__(self, modules):
        self.terms = {(module[0], x): term for module in modules for x, term in module[4]}
        self.codes = {}

    def has(self, module, x):
        """Whether there is such a definition."""
        return (module, x) in self.terms

    def code_of(self, module, x):
        """The code of that definition; NoValue((M, x))."""
        what = (module, x)
        if what not in self.codes:
            if not self.has(module, x):
                raise NoValue(what)
            self.codes[what] = coded(self.terms[what], module, x)
        return self.codes[what]


class Run:
    """A run in a program, of at most so many steps.

    Todo has, as (rule, code, scope), what is to be done, the next one last; worths what was told and is still needed,
    the last one last.
    """

    def __init__(self, program, most):
        self.program = program
        self.most = most
        self.steps = 0
        self.todo = []
        self.worths = []

    def worth_of(self, code, scope):
        """The worth of the code in that scope; TooLong(most), Bare(spot), NoValue((M, x)), Met(spot)."""
        todo = self.todo
        todo.append((begin, code, scope))
        while todo:
            rule, part, around = todo.pop()
            rule(self, part, around)
        return self.worths.pop()


def coded(term, module, x):
    """The code of a term, all spots being of that module and definition."""
    under_way = []
    for place, part in placed_parts(term):
        start = len(under_way) - len(term_parts(part))
        code = (BEGINNINGS[part[0]], part, (module, x, place), under_way[start:])
        del under_way[start:]
        under_way.append(code)
    return under_way[0]


def begin(run, code, scope):
    """A step: the term is begun."""
    if run.steps >= run.most:
        raise TooLong(run.most)
    run.steps += 1
    rule = code[0]
    rule(run, code, scope)


def begin_number(run, code, scope):
    """Itself."""
    run.worths.append(code[1])


def begin_name(run, code, scope):
    """The worth of a bound name, else the definition of the module in which it stands."""
    x = code[1][1]
    if x in scope:
        run.worths.append(scope[x])
    else:
        run.todo.append((begin, run.program.code_of(code[2][0], x), {}))


def begin_from(run, code, scope):
    """The definition of that module."""
    _, module, x = code[1]
    run.todo.append((begin, run.program.code_of(module, x), {}))


def begin_hole(run, code, scope):
    """Nothing stands there."""
    raise Bare(code[2])


def begin_fun(run, code, scope):
    """A function."""
    run.worths.append(("fun", code[1][1], code[3][0], scope))


def begin_rec(run, code, scope):
    """All its parts, in order."""
    run.todo.append((end_rec, code, scope))
    for part in code[3][::-1]:
        run.todo.append((begin, part, scope))


def end_rec(run, code, scope):
    """The rec of what was told."""
    labels = [pair[0] for pair in code[1][1]]
    worths = run.worths
    start = len(worths) - len(labels)
    worth = ("rec", tuple(zip(labels, worths[start:])))
    del worths[start:]
    worths.append(worth)


def begin_tag(run, code, scope):
    """Its part."""
    run.todo.append((end_tag, code, scope))
    run.todo.append((begin, code[3][0], scope))


def end_tag(run, code, scope):
    """The tag, with what was told."""
    run.worths.append(("tag", code[1][1], run.worths.pop()))


def begin_call(run, code, scope):
    """What is called."""
    run.todo.append((hand_over, code, scope))
    run.todo.append((begin, code[3][0], scope))


def hand_over(run, code, scope):
    """Behind what is called, which has to be a function: what it is called with."""
    need(run, code, "fun")
    run.todo.append((enter, code, scope))
    run.todo.append((begin, code[3][1], scope))


def enter(run, code, scope):
    """Behind both: the function's term."""
    handed = run.worths.pop()
    _, x, inside, around = run.worths.pop()
    run.todo.append((begin, inside, {**around, x: handed}))


def begin_reckon(run, code, scope):
    """The left number."""
    run.todo.append((reckon_right, code, scope))
    run.todo.append((begin, code[3][0], scope))


def reckon_right(run, code, scope):
    """Behind it: the right number."""
    need(run, code, "num")
    run.todo.append((end_reckon, code, scope))
    run.todo.append((begin, code[3][1], scope))


def end_reckon(run, code, scope):
    """Behind both: what is left over."""
    need(run, code, "num")
    right = run.worths.pop()[1]
    left = run.worths.pop()[1]
    head = code[1][0]
    if head == "add":
        number = left + right
    elif head == "less":
        number = left - right
    else:
        number = left * right
    run.worths.append(("num", number % (MOST + 1)))


def begin_under(run, code, scope):
    """The left number."""
    run.todo.append((under_right, code, scope))
    run.todo.append((begin, code[3][0], scope))


def under_right(run, code, scope):
    """Behind it: the right number."""
    need(run, code, "num")
    run.todo.append((choose, code, scope))
    run.todo.append((begin, code[3][1], scope))


def choose(run, code, scope):
    """Behind both: the one term or the other."""
    need(run, code, "num")
    right = run.worths.pop()[1]
    left = run.worths.pop()[1]
    run.todo.append((begin, code[3][2 if left < right else 3], scope))


def begin_get(run, code, scope):
    """The rec."""
    run.todo.append((end_get, code, scope))
    run.todo.append((begin, code[3][0], scope))


def end_get(run, code, scope):
    """What it has at the label."""
    need_label(run, code)
    run.worths.append(dict(run.worths.pop()[1])[code[1][2]])


def begin_put(run, code, scope):
    """The rec."""
    run.todo.append((put_right, code, scope))
    run.todo.append((begin, code[3][0], scope))


def put_right(run, code, scope):
    """Behind it: what is put."""
    need_label(run, code)
    run.todo.append((end_put, code, scope))
    run.todo.append((begin, code[3][1], scope))


def end_put(run, code, scope):
    """The rec, with what was told at the label."""
    new = run.worths.pop()
    pairs = [(label, new if label == code[1][2] else worth) for label, worth in run.worths.pop()[1]]
    run.worths.append(("rec", tuple(pairs)))


def begin_case(run, code, scope):
    """The tag."""
    run.todo.append((take_way, code, scope))
    run.todo.append((begin, code[3][0], scope))


def take_way(run, code, scope):
    """Behind it: the way of its label."""
    need(run, code, "tag")
    _, tag, inside = run.worths.pop()
    for (label, x, _), way in zip(code[1][2], code[3][1:]):
        if label == tag:
            run.todo.append((begin, way, {**scope, x: inside}))
            return
    raise Met(code[2])


def need(run, code, head):
    """The worth told last has to be of that sort; Met(spot)."""
    if run.worths[-1][0] != head:
        raise Met(code[2])


def need_label(run, code):
    """The worth told last has to be a rec that has the label; Met(spot)."""
    need(run, code, "rec")
    if code[1][2] not in dict(run.worths[-1][1]):
        raise Met(code[2])


BEGINNINGS = {
    "num": begin_number, "name": begin_name, "from": begin_from, "hole": begin_hole, "fun": begin_fun,
    "call": begin_call, "add": begin_reckon, "less": begin_reckon, "times": begin_reckon, "under": begin_under,
    "rec": begin_rec, "get": begin_get, "put": begin_put, "tag": begin_tag, "case": begin_case,
}
