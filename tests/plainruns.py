"""Slow, plain versions of what is done with wholes that are run, straight after the document, to compare with."""

import itertools
import sys

from tests import plain, plainmodules


class Refused(Exception):
    """What a run is refused with: (class's name, what)."""


class Running:
    """One run, by calls within calls."""

    def __init__(self, modules, most):
        self.terms = {(module[0], x): term for module in modules for x, term in module[4]}
        self.most = most
        self.steps = 0

    def whole(self, term, m, x):
        """Likewise of the whole term of a definition; so deep as needed, while it runs."""
        limit = sys.getrecursionlimit()
        sys.setrecursionlimit(30000)
        try:
            return self.begun(term, m, x, (), {})
        finally:
            sys.setrecursionlimit(limit)

    def need(self, worth, head, spot):
        if worth[0] != head:
            raise Refused("Met", spot)
        return worth

    def begun(self, term, m, x, place, scope):
        """The worth of the term at that place of the definition x of m; a function has all that it needs with it."""
        if self.steps + 1 > self.most:
            raise Refused("TooLong", self.most)
        self.steps += 1
        head = term[0]
        here = (m, x, place)

        def part(k, more=()):
            return self.begun(plain.parts(term)[k][0], m, x, place + (k,), {**scope, **dict(more)})

        if head == "num":
            return term
        if head == "name" and term[1] in scope:
            return scope[term[1]]
        if head in ("name", "from"):
            what = (m, term[1]) if head == "name" else term[1:]
            if what not in self.terms:
                raise Refused("NoValue", what)
            return self.begun(self.terms[what], *what, (), {})
        if head == "hole":
            raise Refused("Bare", here)
        if head == "fun":
            return ("fun", lambda worth: part(0, [(term[1], worth)]))
        if head == "call":
            function = self.need(part(0), "fun", here)
            return function[1](part(1))
        if head in ("add", "less", "times", "under"):
            left = self.need(part(0), "num", here)[1]
            right = self.need(part(1), "num", here)[1]
            if head == "under":
                return part(2) if left < right else part(3)
            return ("num", {"add": left + right, "less": left - right, "times": left * right}[head] % 99991)
        if head == "rec":
            return ("rec", [(label, part(k)) for k, (label, _) in enumerate(term[1])])
        if head in ("get", "put"):
            pairs = self.need(part(0), "rec", here)[1]
            if term[2] not in [label for label, _ in pairs]:
                raise Refused("Met", here)
            if head == "get":
                return dict(pairs)[term[2]]
            new = part(1)
            return ("rec", [(label, new if label == term[2] else worth) for label, worth in pairs])
        if head == "tag":
            return ("tag", term[1], part(0))
        tag = self.need(part(0), "tag", here)
        for k, (label, bound, _) in enumerate(term[2], start=1):
            if label == tag[1]:
                return part(k, [(bound, tag[2])])
        raise Refused("Met", here)


def measured(worth):
    """How many things it has, and how deep it is."""
    inner = [worth[2]] if worth[0] == "tag" else [part for _, part in worth[1]] if worth[0] == "rec" else []
    found = [measured(part) for part in inner]
    return 1 + sum(size for size, _ in found), 1 + max((deep for _, deep in found), default=0)


def as_told(worth):
    if worth[0] == "fun":
        return ("fun",)
    if worth[0] == "tag":
        return ("tag", worth[1], as_told(worth[2]))
    return worth if worth[0] == "num" else ("rec", tuple((label, as_told(part)) for label, part in worth[1]))


def ran(modules, name, x, most=2000):
    """(worth, steps), or (class's name, what)."""
    if name not in [module[0] for module in modules]:
        return ("NoModule", name)
    run = Running(modules, most)
    if (name, x) not in run.terms:
        return ("NoValue", x)
    try:
        worth = run.whole(run.terms[(name, x)], name, x)
    except Refused as refused:
        return refused.args
    many, deep = measured(worth)
    return ("TooLong", 100) if many > 100 or deep > 16 else (as_told(worth), run.steps)


def used(modules, term, most=2000):
    """(number, steps), or (class's name, what)."""
    known = [((module[0], x), kind) for module in modules for x, kind in module[3]]
    word, what = plain.kind_of(term, known)
    if word != "kind":
        return (word.title(), what)
    if what[0] not in ("num", "any"):
        return ("NotNum", what)
    run = Running(modules, most)
    try:
        worth = run.whole(term, "", "")
    except Refused as refused:
        return refused.args
    return (worth[1], run.steps) if worth[0] == "num" else ("Met", ("", "", ()))


def terms_of(things, leaves, labels):
    """All terms of so many things, of these leaves, gets of these labels and calls."""
    if things == 1:
        return list(leaves)
    found = [("get", term, label) for label in labels for term in terms_of(things - 1, leaves, labels)]
    for left in range(1, things - 1):
        pairs = itertools.product(terms_of(left, leaves, labels), terms_of(things - 1 - left, leaves, labels))
        found += [("call", *pair) for pair in pairs]
    return found


def labels_of(kind):
    """The labels of all recs in a kind."""
    found = [label for label, _ in kind[1]] if kind[0] == "rec" else []
    for part in plain.inner(kind):
        found += labels_of(part)
    return found


def users(face, size):
    known = [((face[0], x), kind) for x, kind in face[2]]
    leaves = [("num", 0), ("num", 1)] + [("from", *what) for what, _ in known]
    labels = {label for _, kind in known for label in labels_of(kind)}
    found = []
    for things in range(1, size + 1):
        for term in terms_of(things, leaves, labels):
            word, what = plain.kind_of(term, known)
            if word == "kind" and what[0] in ("num", "any"):
                found.append((things, plain.term_text(term), term))
    return [term for _, _, term in sorted(found)]


def parting(ahead, one, other, size=4, most=2000):
    """The first user that parts them, None, or (class's name, what)."""
    if plainmodules.face_of(one) != plainmodules.face_of(other):
        return ("Unlike", one[0])
    wholes = [list(ahead) + [one], list(ahead) + [other]]
    for whole in wholes:
        if plainmodules.faults(whole):
            return ("Faulty", plainmodules.faults(whole)[0])
    for user in users(plainmodules.face_of(one), size):
        left, right = [used(whole, user, most)[0] for whole in wholes]
        if type(left) is int and type(right) is int and left != right:
            return user
    return None
