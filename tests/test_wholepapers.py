import copy
import random
import unittest

from sealedkinds.apart import states
from sealedkinds.errors import Unknown
from sealedkinds.joined import faults
from sealedkinds.kindpapers import kinds_at, shows_kinds
from sealedkinds.kinds import told
from sealedkinds.kindtext import kind_in
from sealedkinds.modules import face_of
from sealedkinds.moduletext import module_text
from sealedkinds.terms import places_of
from sealedkinds.wholepapers import paper_of, shows_right
from tests import plain, plainmodules
from tests.chancemodules import likely_whole
from tests.test_joined import PAIRS, whole_of
from tests.things import chance_thing, deep_things, spoiled

NUM = ("num",)


def plain_paper(modules):
    """The paper by kinds_at and plain faults."""
    if plainmodules.faults(modules):
        return None
    found = []
    for k, module in enumerate(modules):
        known = plainmodules.known_of_faces(module, [face_of(other) for other in modules[:k]])
        for x, term in module[4]:
            found.append((module[0], x, kinds_at(term, known, own=x)))
            known = known + [(x, plain.kind_of(term, known, x)[1])]
    return found


def plain_shows(modules, thing):
    """Whether it shows it, by shows_kinds and plain faults."""
    wanted = [(module[0], x) for module in modules for x, _ in module[4]]
    if type(thing) is not list or not all(type(triple) is tuple and len(triple) == 3 for triple in thing):
        return False
    if [triple[:2] for triple in thing] != wanted:
        return False
    papers = [triple[2] for triple in thing]
    for k, module in enumerate(modules):
        faces = [face_of(other) for other in modules[:k]]
        known = plainmodules.known_of_faces(module, faces)
        tolds = []
        for x, term in module[4]:
            paper = papers.pop(0)
            try:
                if not shows_kinds(term, known, paper, own=x):
                    return False
            except Unknown:
                return False
            known = known + [(x, paper[-1][1])]
            tolds.append((x, "kind", paper[-1][1]))
        if plainmodules.fault_by(module, faces, tolds) is not None:
            return False
    return True


def texts_of(paper):
    return [(m, x, [plain.kind_text(kind) for _, kind in kinds]) for m, x, kinds in paper]


def otherwise(paper):
    """The paper with one thing otherwise, in many ways."""
    found = [tuple(paper), [list(triple) for triple in paper], paper[::-1], paper + paper, None, True, False, 0, "", (), paper[0], [None], [[]]]
    for k, triple in enumerate(paper):
        for made in ([], [triple, triple], [triple[:2]], [triple + (None,)], [list(triple)], [None]):
            found.append(paper[:k] + made + paper[k + 1:])
        m, x, kinds = triple
        for other in [("q", x, kinds), (None, x, kinds), (x, m, kinds), (m, "q", kinds), (m, True, kinds), ([m], x, kinds), (m, x, tuple(kinds)),
                      (m, x, None), (m, x, []), (m, x, kinds + [None]), (m, x, kinds[::-1] + [((), NUM)]), (m, x, dict(kinds))]:
            found.append(paper[:k] + [other] + paper[k + 1:])
        for at, (place, kind) in enumerate(kinds):
            rows = [(place,), (place, kind, kind), [place, kind], (list(place), kind), (place + (0,), kind), (kind, place), (place, list(kind)),
                    (place, None), (place, True), (place, ("any", 0)), (place, ("any", 77)), (place, ("any", True)), (place, NUM), (place, ("rec", (), None)), None]
            for row in rows:
                found.append(paper[:k] + [(m, x, kinds[:at] + [row] + kinds[at + 1:])] + paper[k + 1:])
            for made in ([], [kinds[at], kinds[at]], kinds[at:at + 2][::-1]):
                found.append(paper[:k] + [(m, x, kinds[:at] + made + kinds[at + len(made) // 2 + 1:])] + paper[k + 1:])
    return found


def put_for_all(paper, number, what):
    """The paper with a kind put for one number in all kinds of each triple."""
    return [(m, x, [(place, plain.put_in(kind, number, what)) for place, kind in kinds]) for m, x, kinds in paper]


OPEN = whole_of("""
    module a
    seal t (rec l num)
    tell f (fun *0 *0)
    tell g (fun a.t (fun num num))
    let f (fun x x)
    let g (fun x (fun y (add y (get x l))))

    module b
    uses a
    tell h (fun a.t num)
    let p (call a.f a.f)
    let h (fun x (call (call a.g x) (call p 1)))
""")


class PaperOf(unittest.TestCase):
    def test_each_definition_in_order(self):
        self.assertEqual(paper_of([]), [])
        self.assertEqual(paper_of(()), [])
        for whole in (OPEN, tuple(OPEN)):
            paper = paper_of(whole)
            self.assertEqual(texts_of(paper), [
                ("a", "f", ["*0", "(fun *0 *0)"]),
                ("a", "g", ["num", "(rec l num *0)", "num", "num", "(fun num num)", "(fun (rec l num *0) (fun num num))"]),
                ("b", "p", ["(fun (fun *0 *0) (fun *0 *0))", "(fun *0 *0)", "(fun *0 *0)"]),
                ("b", "h", ["(fun a.t (fun num num))", "a.t", "(fun num num)", "(fun num num)", "num", "num", "num", "(fun a.t num)"])])
            self.assertEqual([[place for place, _ in kinds] for _, _, kinds in paper], [places_of(term) for module in OPEN for _, term in module[4]])
            self.assertIs(shows_right(whole, paper), True)
            self.assertIsInstance(paper, list)

    def test_none_where_there_are_faults(self):
        for text in ("module a\nlet x (add 1 (rec))", "module a\nuses q\nlet x 1", "module a\ntell x q.t\nlet x 1", "module a\ntell y num\nlet x 1",
                     "module a\ntell x (rec)\nlet x 1", "module a\nlet x y", "module a\nlet x 1\n\nmodule b\nuses a\nlet y a.x"):
            self.assertIsNone(paper_of(whole_of(text)))
            self.assertIsNone(paper_of(tuple(whole_of(text))))
        self.assertIsNone(paper_of(PAIRS[1:]))

    def test_against_plain(self):
        chance = random.Random(95)
        many = 0
        for _ in range(500):
            whole = likely_whole(chance)
            paper = paper_of(whole)
            self.assertEqual(paper, plain_paper(whole))
            self.assertEqual(paper is None, bool(faults(whole)))
            if paper is None:
                continue
            many += 1
            self.assertIs(shows_right(whole, paper), True)
            kinds = [told(rows[-1][1]) for _, _, rows in paper]
            tolds = [states(module, [face_of(other) for other in whole[:k]]) for k, module in enumerate(whole)]
            self.assertEqual(kinds, [what for rows in tolds for _, _, what in rows])
        self.assertTrue(80 < many < 450, many)


class ShowsRight(unittest.TestCase):
    def test_less_open_ones(self):
        paper = paper_of(OPEN)
        for number, what in ((0, NUM), (0, ("any", 9)), (0, ("own", "a", "t")), (0, kind_in("(rec a *7 *8)"))):
            made = [(m, x, [(place, kind) for place, kind in kinds]) for m, x, kinds in paper]
            # p alone, which b doesn't tell; h needs it to take a num
            made[2] = put_for_all(paper[2:3], number, what)[0]
            self.assertIs(shows_right(OPEN, made), number == 0 and what in (NUM, ("any", 9)), what)
            self.assertIs(plain_shows(OPEN, made), shows_right(OPEN, made))
        # f is told as open as can be: less open it's closed
        less = put_for_all(paper[:1], 0, NUM) + paper[1:]
        self.assertIs(shows_right(OPEN, less), False)
        # g is told by its seal alone: its paper may be closed
        for rest, fits in (((), True), ((("m", NUM),), False)):
            made = list(paper)
            made[1] = put_for_all(paper[1:2], 0, (rest, None))[0]
            self.assertIs(shows_right(OPEN, made), fits)

    def test_a_definition_ahead_is_known_by_its_paper(self):
        whole = whole_of("module a\nlet i (fun x x)\nlet y (rec a (call i 1) b (call i (rec)))\nlet z (call i 1)")
        paper = paper_of(whole)
        self.assertIs(shows_right(whole, paper), True)
        self.assertIs(shows_right(whole, put_for_all(paper[:1], 0, NUM) + paper[1:]), False)
        whole = whole_of("module a\nlet i (fun x x)\nlet z (call i 1)")
        paper = paper_of(whole)
        self.assertIs(shows_right(whole, put_for_all(paper[:1], 0, NUM) + paper[1:]), True)
        self.assertIs(shows_right(whole, put_for_all(paper[:1], 0, ("rec", (), None)) + paper[1:]), False)
        self.assertIs(shows_right(whole, put_for_all(paper[:1], 0, ("any", 3)) + paper[1:]), True)

    def test_kinds_no_greater_than_told(self):
        whole = whole_of("module a\nlet x (tag a 1)")
        for many, fits in ((97, True), (98, True), (99, False)):
            labels = sorted("b" + one + two for one in "abcdefghijk" for two in "abcdefghijk")[:many]
            more = tuple((label, NUM) for label in labels)
            paper = [("a", "x", [((0,), NUM), ((), ("sum", (("a", NUM),) + more, None))])]
            self.assertIs(shows_right(whole, paper), fits)

    def test_one_thing_otherwise(self):
        for whole in (OPEN, PAIRS):
            paper = paper_of(whole)
            counts = {True: 0, False: 0}
            for other in otherwise(paper):
                found = shows_right(whole, other)
                self.assertIs(found, plain_shows(whole, other), other)
                counts[found] += 1
            # some say the same, or something as right
            self.assertGreater(counts[False], 300)
        for other in spoiled(tuple(paper_of(whole_of("module a\nlet x (fun y y)")))):
            made = list(other) if isinstance(other, tuple) else other
            self.assertIs(shows_right(whole_of("module a\nlet x (fun y y)"), made), plain_shows(whole_of("module a\nlet x (fun y y)"), made))

    def test_the_whole_otherwise(self):
        paper = paper_of(OPEN)
        text = "\n\n".join(module_text(module) for module in OPEN)
        for one, other, fits in (
            ("tell f (fun *0 *0)", "tell f (fun num num)", False), ("tell f (fun *0 *0)", "tell f (fun *0 *1)", False), ("tell f (fun *0 *0)", "tell f num", False),
            ("tell f (fun *0 *0)\n", "", False), ("tell h (fun a.t num)", "tell h (fun a.t a.t)", False), ("tell h (fun a.t num)\n", "", True),
            ("tell h", "tell q", False), ("tell h (fun a.t num)", "tell h (fun a.t num)\ntell p (fun num num)", True), ("uses a\n", "", False),
            ("uses a\n", "uses a c\n", False), ("seal t (rec l num)", "seal t (rec l num m num)", True), ("seal t (rec l num)", "seal t num", False),
            ("seal t (rec l num)\n", "seal t (rec l num)\nseal u num\n", True), ("let f (fun x x)", "let f (fun y y)", True),
            ("let f (fun x x)", "let f (fun x 1)", False), ("let f (fun x x)", "let f (fun x z)", False), ("let f (fun x x)\n", "let f (fun x x)\nlet z 1\n", False),
            ("let f", "let q", False), ("let p (call a.f a.f)", "let p (call a.f a.q)", False), ("let p (call a.f a.f)", "let p (call a.f b.f)", False),
            ("(call p 1)", "(call q 1)", False), ("(add y", "(less y", True), ("module b\n", "module c\n", False), ("tell h (fun a.t num)", "tell h (fun c.t num)", False),
            ("tell h (fun a.t num)", "tell h (fun a.u num)", False), ("tell g (fun a.t (fun num num))", "tell g (fun (rec l num) (fun num num))", False),
        ):
            self.assertIn(one, text)
            whole = whole_of(text.replace(one, other))
            self.assertIs(shows_right(whole, paper), fits, other)
            self.assertIs(plain_shows(whole, paper), fits, other)
            self.assertIs(shows_right(tuple(whole), paper), fits, other)
        self.assertIs(shows_right(OPEN[:1], paper), False)
        self.assertIs(shows_right(OPEN[:1], paper[:2]), True)
        self.assertIs(shows_right(OPEN[1:], paper[2:]), False)
        self.assertIs(shows_right(OPEN[::-1], paper[2:] + paper[:2]), False)
        self.assertIs(shows_right([], paper), False)

    def test_names_that_are_not_known(self):
        for text in ("module a\nlet x y", "module a\nlet x a.x", "module a\nlet x (add y 1)", "module a\nlet y 1\n\nmodule b\nuses a\nlet x a.y", "module a\nlet x y\nlet y 1"):
            whole = whole_of(text)
            for kind in (NUM, ("any", 0)):
                paper = [(module[0], x, [(place, kind) for place in places_of(term)]) for module in whole for x, term in module[4]]
                self.assertIs(shows_right(whole, paper), False)
                self.assertIs(shows_right(whole, None), False)

    def test_things_of_any_make(self):
        self.assertIs(shows_right([], []), True)
        self.assertIs(shows_right((), []), True)
        chance = random.Random(96)
        paper = paper_of(OPEN)
        for thing in [chance_thing(chance, 6) for _ in range(600)] + deep_things(50) + [(), None, {}, "", [[]]]:
            for made in (thing, [thing], [thing] * 4, paper[:3] + [thing], [thing] + paper[1:], paper[:3] + [("b", "h", thing)],
                         paper[:3] + [("b", "h", [thing] * 8)], paper[:3] + [("b", "h", paper[3][2][:7] + [((), thing)])]):
                self.assertIs(shows_right(OPEN, made), False)
            self.assertIs(shows_right([], thing), thing == [] and isinstance(thing, list))

    def test_against_plain(self):
        chance = random.Random(97)
        counts = {True: 0, False: 0}
        for _ in range(500):
            whole = likely_whole(chance)
            paper = paper_of(whole)
            if not paper:
                continue
            others = likely_whole(chance) if chance.random() < 0.2 else whole
            at = chance.randrange(len(paper))
            numbers = sorted({n for _, kind in paper[at][2] for _, n in plain.numbers_of(kind)})
            for n in numbers[:3]:
                way = [way for _, kind in paper[at][2] for way, other in plain.numbers_of(kind) if other == n][0]
                kind = chance.choice((NUM, ("any", 99), kind_in("(rec)")))
                made = paper[:at] + put_for_all(paper[at:at + 1], n, kind if way == "any" else ((), chance.choice((None, 99)))) + paper[at + 1:]
                found = shows_right(others, made)
                self.assertIs(found, plain_shows(others, made))
                counts[found] += 1
        self.assertTrue(min(counts.values()) > 30, counts)


class Answers(unittest.TestCase):
    def test_nothing_is_changed_and_told_lists_are_ones_own(self):
        kept = copy.deepcopy(OPEN)
        paper = paper_of(OPEN)
        again = copy.deepcopy(paper)
        shows_right(OPEN, paper)
        self.assertEqual((OPEN, paper), (kept, again))
        for _, _, kinds in paper:
            self.assertIsInstance(kinds, list)
            kinds.clear()
        paper.clear()
        self.assertEqual(paper_of(OPEN), again)
        self.assertIs(shows_right(OPEN, again), True)


if __name__ == "__main__":
    unittest.main()
