"""Users of faces, and those that part two modules of one face."""

from sealedkinds.errors import Bare, Faulty, Met, NoValue, TooLong, Unlike
from sealedkinds.joined import faults
from sealedkinds.kinds import kind_parts
from sealedkinds.known import Known
from sealedkinds.looked import Looked
from sealedkinds.looking import DEEPEST, WIDE
from sealedkinds.machine import Program, Run, coded
from sealedkinds.modules import face_of
from sealedkinds.opening import comes_to
from sealedkinds.running import LIMIT, NUM
from sealedkinds.termtext import term_text
from sealedkinds.walking import all_in

SIZE = 4

# The names that stand for the parts of a user whose worths are told.
PARTS = ("a", "b")


def users(face, *, size=SIZE):
    """The list of all users of the face, of at most so many things, rising by things, then by texts."""
    rows = rows_of(face, size)
    return [rows[number][1] for number in users_among(rows)]


def rows_of(face, size):
    """The list of (things, term, kind, parts) of all terms that users are made of, rising by things.

    Parts has the numbers of the rows of the terms straight in that one.
    """
    name, _, values = face
    known = {(name, x): Known(kind) for x, kind in values}
    leaves = [("num", 0), ("num", 1)] + [("from", name, x) for x, _ in values]
    labels = rec_labels([kind for _, kind in values])
    rows = []
    by_things = [[]]
    for things in range(1, size + 1):
        made = [(term, ()) for term in leaves] if things == 1 else made_of(things, rows, by_things, labels)
        by_things.append([])
        for term, parts in made:
            word, what = Looked(term, known, None, WIDE, DEEPEST).state()
            if word == "kind":
                by_things[things].append(len(rows))
                rows.append((things, term, what, parts))
    return rows


def rec_labels(kinds):
    """The rising list of the labels that stand in recs of these kinds."""
    recs = [part for kind in kinds for part in all_in(kind, kind_parts) if part[0] == "rec"]
    return sorted({pair[0] for rec in recs for pair in rec[1]})


def made_of(things, rows, by_things, labels):
    """The list of (term, parts) of the gets and calls of so many things that may have a kind.

    By things has, for each lesser number of things, the list of the numbers of the rows of so many.
    """
    found = []
    for part in by_things[things - 1]:
        _, term, kind, _ = rows[part]
        if kind[0] == "rec" or kind[0] == "any":
            found.extend([(("get", term, label), (part,)) for label in labels])
    for left in range(1, things - 1):
        for part in by_things[left]:
            _, term, kind, _ = rows[part]
            if kind[0] == "fun" or kind[0] == "any":
                handed = by_things[things - 1 - left]
                found.extend([(("call", term, rows[other][1]), (part, other)) for other in handed])
    return found


def users_among(rows):
    """The list of the numbers of the rows of users, rising by things, then by texts."""
    found = []
    for number, (things, term, kind, _) in enumerate(rows):
        if comes_to(kind, NUM):
            found.append((things, term_text(term), number))
    return [number for _, _, number in sorted(found)]


def parting(ahead, one, other, *, size=SIZE, most=LIMIT):
    """The first user of their face that tells unlike numbers of the one and of the other, behind those ahead; None.

    Refused with Unlike(name), Faulty((M, fault)).
    """
    face = face_of(one)
    if face_of(other) != face:
        raise Unlike(one[0])
    programs = [program_of(list(ahead) + [last]) for last in (one, other)]
    rows = rows_of(face, size)
    mine, yours = [Telling(program, rows, most) for program in programs]
    for number in users_among(rows):
        left = mine.number_of(number)
        right = yours.number_of(number)
        if left is not None and right is not None and left != right:
            return rows[number][1]
    return None


def program_of(modules):
    """The modules, ready to be run; Faulty((M, fault))."""
    found = faults(modules)
    if found:
        raise Faulty(found[0])
    return Program(modules)


class Telling:
    """What the terms of rows tell in a program, each in at most so many steps; each is begun only once.

    Kept has, by the numbers of rows, what was told so far.
    """

    def __init__(self, program, rows, most):
        self.program = program
        self.rows = rows
        self.most = most
        self.kept = {}

    def number_of(self, number):
        """The number that the row's term tells; None where it's refused."""
        told = self.told_by(number)
        return told[0][1] if told is not None and told[0][0] == "num" else None

    def told_by(self, number):
        """The worth that the row's term tells, and its steps; None where it's refused."""
        if number not in self.kept:
            self.kept[number] = self.found_by(number)
        return self.kept[number]

    def found_by(self, number):
        """Likewise, by the worths that its parts tell."""
        _, term, _, parts = self.rows[number]
        scope = {}
        ahead = 0
        for x, part in zip(PARTS, parts):
            told = self.told_by(part)
            if told is None:
                return None
            scope[x] = told[0]
            # The name that stands for the part takes a step as well.
            ahead += told[1] - 1
        run = Run(self.program, self.most - ahead)
        try:
            worth = run.worth_of(coded(by_names(term), "", ""), scope)
        except (TooLong, Bare, Met, NoValue):
            return None
        return worth, run.steps + ahead


def by_names(term):
    """The term with names for the terms straight in it."""
    names = [("name", x) for x in PARTS]
    if term[0] == "call":
        return ("call", names[0], names[1])
    return ("get", names[0], term[2]) if term[0] == "get" else term
