"""Runs of definitions and of users."""

from sealedkinds.errors import Met, NoModule, NotNum, NoValue, TooLong
from sealedkinds.looking import DEEPEST, WIDE, kind_of
from sealedkinds.machine import Program, Run, coded
from sealedkinds.opening import comes_to
from sealedkinds.walking import folded, is_within
from sealedkinds.worths import with_worths, worth_parts

LIMIT = 2000

NUM = ("num",)


def ran(modules, name, x, *, most=LIMIT):
    """The worth of that module's definition, and how many steps it takes to tell it.

    Refused with NoModule(name), NoValue(x), TooLong(most), Bare(spot), NoValue((M, y)), Met(spot), TooLong(WIDE).
    """
    if not any([module[0] == name for module in modules]):
        raise NoModule(name)
    program = Program(modules)
    if not program.has(name, x):
        raise NoValue(x)
    run = Run(program, most)
    worth = run.worth_of(program.code_of(name, x), {})
    if not is_within(worth, worth_parts, WIDE, DEEPEST):
        raise TooLong(WIDE)
    return folded(worth, worth_parts, with_worths), run.steps


def used(modules, term, *, most=LIMIT):
    """The number that the user tells, and how many steps it takes; Unknown, Clash, NotNum(kind), then as ran."""
    known = [((module[0], x), kind) for module in modules for x, kind in module[3]]
    kind = kind_of(term, known)
    if not comes_to(kind, NUM):
        raise NotNum(kind)
    run = Run(Program(modules), most)
    worth = run.worth_of(coded(term, "", ""), {})
    if worth[0] != "num":
        raise Met(("", "", ()))
    return worth[1], run.steps
