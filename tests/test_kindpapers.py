import copy
import random
import unittest

from sealedkinds.errors import Clash, Unknown
from sealedkinds.kindpapers import kinds_at, shows_kinds
from sealedkinds.kinds import is_kind
from sealedkinds.kindtext import kind_in, kind_text
from sealedkinds.looking import kind_of
from sealedkinds.opening import comes_to
from sealedkinds.terms import places_of, things_in
from sealedkinds.termtext import term_in, term_text
from tests import plain, plainmends
from tests.test_looking import KNOWN, deep, known_of, wide
from tests.test_mends import chance_asked
from tests.things import chance_kind, chance_thing, deep_things, spoiled

NUM = ("num",)


def any_of(n):
    return ("any", n)


# of each sort of term: the kinds of all places in order
PAPERS = (
    ("7", ["num"]), ("?", ["*0"]), ("one", ["num"]), ("p", ["(fun *0 (rec a *0 b *0))"]), ("m.x", ["(fun m.t num)"]),
    ("(fun x x)", ["*0", "(fun *0 *0)"]), ("(fun x 1)", ["num", "(fun *0 num)"]), ("(fun x (fun y x))", ["*0", "(fun *1 *0)", "(fun *0 (fun *1 *0))"]),
    ("(call ? ?)", ["(fun *0 *1)", "*0", "*1"]), ("(call inc ?)", ["(fun num num)", "num", "num"]),
    ("(rec a (call i 1) b (call i (rec)))", ["(fun num num)", "num", "num", "(fun (rec) (rec))", "(rec)", "(rec)", "(rec a num b (rec))"]),
    ("(rec a i b i)", ["(fun *0 *0)", "(fun *1 *1)", "(rec a (fun *0 *0) b (fun *1 *1))"]),
    ("(rec a m.i b m.i)", ["(fun *0 *0)", "(fun *1 *1)", "(rec a (fun *0 *0) b (fun *1 *1))"]),
    ("(rec a geta b geta)", ["(fun (rec a *0 *1) *0)", "(fun (rec a *2 *3) *2)", "(rec a (fun (rec a *0 *1) *0) b (fun (rec a *2 *3) *2))"]),
    ("(add ? 2)", ["num", "num", "num"]), ("(less 1 ?)", ["num"] * 3), ("(times ? ?)", ["num"] * 3),
    ("(under ? 1 ? ?)", ["num", "num", "*0", "*0", "*0"]), ("(rec)", ["(rec)"]), ("(rec a 1 b ?)", ["num", "*0", "(rec a num b *0)"]),
    ("(get ? a)", ["(rec a *0 *1)", "*0"]), ("(fun r (get r a))", ["(rec a *0 *1)", "*0", "(fun (rec a *0 *1) *0)"]),
    ("(put ? a 1)", ["(rec a *0 *1)", "num", "(rec a num *1)"]), ("(put (rec a 1 b 2) a (rec))",
     ["num", "num", "(rec a num b num)", "(rec)", "(rec a (rec) b num)"]),
    ("(tag a ?)", ["*0", "(sum a *0 *1)"]), ("(case ? a x x b y 1)", ["(sum a num b *0)", "num", "num", "num"]),
    ("(case (tag a 1) a x (rec z x))", ["num", "(sum a num)", "num", "(rec z num)", "(rec z num)"]),
    ("(fun s (case s a x x b y (get y c)))", ["(sum a *0 b (rec c *0 *1))", "*0", "(rec c *0 *1)", "*0", "*0", "(fun (sum a *0 b (rec c *0 *1)) *0)"]),
)


def paper_of(text, *kinds):
    return list(zip(places_of(term_in(text)), [kind_in(kind) for kind in kinds]))


class KindsAt(unittest.TestCase):
    def test_each_sort(self):
        known = known_of(*KNOWN)
        for text, kinds in PAPERS:
            found = kinds_at(term_in(text), known)
            self.assertEqual(found, paper_of(text, *kinds), text)
            self.assertIsInstance(found, list)
            self.assertIs(shows_kinds(term_in(text), known, found), True)

    def test_own(self):
        for text, kinds in (
            ("f", ["*0"]), ("(fun x (call f x))", ["(fun *0 *1)", "*0", "*1", "(fun *0 *1)"]),
            ("(fun n (under n 1 0 (add 1 (call f n))))",
             ["num", "num", "num", "num", "(fun num num)", "num", "num", "num", "num", "(fun num num)"]),
        ):
            self.assertEqual(kinds_at(term_in(text), [], own="f"), paper_of(text, *kinds))
            self.assertIs(shows_kinds(term_in(text), [], paper_of(text, *kinds), own="f"), True)
            # where it's known, too
            self.assertEqual(kinds_at(term_in(text), [("f", NUM)], own="f"), paper_of(text, *kinds))
            for more in ({}, {"own": None}, {"own": "g"}):
                for asked in (lambda: kinds_at(term_in(text), [], **more), lambda: shows_kinds(term_in(text), [], None, **more)):
                    with self.assertRaises(Unknown):
                        asked()

    def test_refused(self):
        known = known_of(*KNOWN)
        for text, error, place in (
            ("x", Unknown, ()), ("(call (call 1 1) x)", Unknown, (1,)), ("(add (rec) m.z)", Unknown, (1,)), ("(call 1 2)", Clash, ()),
            ("(rec a (add (rec) 1) b (add 1 (rec)))", Clash, (0,)), ("(fun x (call x x))", Clash, (0,)),
        ):
            with self.assertRaises(error) as caught:
                kinds_at(term_in(text), known)
            self.assertEqual(caught.exception.what, place)
            for thing in (None, [], [((), NUM)]):
                if error is Unknown:
                    with self.assertRaises(Unknown) as caught:
                        shows_kinds(term_in(text), known, thing)
                    self.assertEqual(caught.exception.what, place)
                else:
                    self.assertIs(shows_kinds(term_in(text), known, thing), False)

    def test_against_plain(self):
        chance = random.Random(40)
        counts = {"unknown": 0, "clash": 0, "kind": 0}
        for _ in range(1500):
            term, known, own = chance_asked(chance)
            if things_in(term) > 30:
                continue
            expected = plain.kind_of(term, known, own)
            counts[expected[0]] += 1
            try:
                found = kinds_at(term, known, own=own)
            except (Unknown, Clash) as refusal:
                self.assertEqual((type(refusal).__name__.lower(), refusal.what), expected)
                continue
            self.assertEqual(found, plainmends.kinds_at(term, known, own), term_text(term))
            self.assertEqual(plain.told(found[-1][1]), kind_of(term, known, own=own))
            self.assertEqual(found[-1][0], ())
            self.assertIs(shows_kinds(term, known, found, own=own), True)
        self.assertTrue(min(counts.values()) > 50, counts)


def put_in_paper(paper, puts):
    """The paper with other kinds and rows for its numbers; None where a label would be twice."""
    try:
        return [(place, plain.put_all(kind, {n: puts[n] for _, n in plain.numbers_of(kind)})) for place, kind in paper]
    except AssertionError:
        return None


def chance_puts(chance, paper):
    puts = {}
    for _, kind in paper:
        for way, n in plain.numbers_of(kind):
            if n in puts:
                continue
            if way == "any":
                puts[n] = chance.choice((NUM, ("any", chance.randint(50, 52)), ("own", "m", "t"), ("fun", NUM, any_of(50)), ("rec", (), 60)))
            else:
                more = chance.choice(((), (("x", NUM),), (("v", any_of(51)), ("w", NUM))))
                puts[n] = (more, chance.choice((None, n + 100)))
    return puts


def is_right(term, known, own, paper):
    """Whether a paper of the right make is right: what is most open comes to it, as one kind."""
    first = plainmends.kinds_at(term, known, own)
    kinds = [kind for _, kind in paper]
    whole = plainmends.bundle(kinds)
    if first is None or not plain.is_kind(whole) or any(plain.size_of(kind) > 100 or plain.deep_of(kind) > 16 for kind in kinds):
        return False
    return comes_to(plainmends.bundle([kind for _, kind in first]), whole)


class ShowsKinds(unittest.TestCase):
    def test_kinds_for_numbers(self):
        chance = random.Random(41)
        many = 0
        for _ in range(1500):
            term, known, own = chance_asked(chance)
            try:
                paper = kinds_at(term, known, own=own)
            except (Unknown, Clash):
                continue
            for _ in range(3):
                made = put_in_paper(paper, chance_puts(chance, paper))
                if made is not None:
                    right = all(plain.size_of(kind) <= 100 and plain.deep_of(kind) <= 16 for _, kind in made)
                    right = right and is_kind(plainmends.bundle([kind for _, kind in made]))
                    many += made != paper and right
                    self.assertIs(shows_kinds(term, known, made, own=own), right, term_text(term))
        self.assertGreater(many, 300)

    def test_right_ones_by_hand(self):
        known = known_of(*KNOWN)
        for text, kinds in (
            ("(fun x x)", ["num", "(fun num num)"]), ("(fun x x)", ["*7", "(fun *7 *7)"]), ("(fun x x)", ["(rec *7)", "(fun (rec *7) (rec *7))"]),
            ("?", ["num"]), ("?", ["(rec a *0 *1)"]), ("i", ["(fun *3 *3)"]), ("i", ["(fun (rec) (rec))"]), ("any", ["(fun num *0)"]),
            ("(get ? a)", ["(rec a num)", "num"]), ("(get ? b)", ["(rec a *0 b *1 c num *2)", "*1"]), ("(tag a 1)", ["num", "(sum a num)"]),
            ("(tag b 1)", ["num", "(sum a (rec) b num c *0 *4)"]), ("(put ? b 1)", ["(rec a *0 b m.t c num *2)", "num", "(rec a *0 b num c num *2)"]),
            ("(put ? b 1)", ["(rec b num)", "num", "(rec b num)"]), ("geta", ["(fun (rec a *1 b *1) *1)"]),
            ("(call ? ?)", ["(fun num num)", "num", "num"]), ("(call ? ?)", ["(fun *1 *1)", "*1", "*1"]),
            ("(case ? a x ?)", ["(sum a m.t)", "*0", "*0"]), ("(fun x ?)", ["*0", "(fun *0 *0)"]),
        ):
            self.assertIs(shows_kinds(term_in(text), known, paper_of(text, *kinds)), True, text)

    def test_wrong_ones_by_hand(self):
        known = known_of(*KNOWN)
        for text, kinds in (
            ("7", ["*0"]), ("7", ["m.t"]), ("one", ["*0"]), ("i", ["(fun *0 *1)"]), ("i", ["*0"]), ("seal", ["num"]), ("m.x", ["(fun num num)"]),
            ("(fun x x)", ["num", "(fun num *0)"]), ("(fun x x)", ["*0", "(fun *1 *0)"]), ("(fun x x)", ["num", "(fun *0 num)"]),
            ("(fun x 1)", ["num", "num"]), ("(fun x 1)", ["num", "(fun num (rec))"]), ("(call ? ?)", ["(fun *0 *1)", "*1", "*0"]),
            ("(call ? ?)", ["(fun *0 *1)", "*0", "*2"]), ("(call ? ?)", ["*0", "*1", "*2"]), ("(add ? ?)", ["*0", "num", "num"]),
            ("(add ? ?)", ["num", "*0", "num"]), ("(add ? ?)", ["num", "num", "*0"]), ("(under ? ? ? ?)", ["num", "num", "*0", "*1", "*0"]),
            ("(under ? ? ? ?)", ["num", "num", "*1", "*0", "*0"]), ("(under ? ? ? ?)", ["num", "num", "*0", "*0", "*1"]),
            ("(under ? ? ? ?)", ["num", "*0", "*0", "*0", "*0"]), ("(under ? ? ? ?)", ["*0", "num", "*0", "*0", "*0"]),
            ("(rec a 1)", ["num", "(rec a num *0)"]), ("(rec a 1)", ["num", "(rec a *0)"]), ("(rec a 1)", ["num", "(rec a num b num)"]),
            ("(rec a 1)", ["num", "(rec)"]), ("(rec a 1)", ["num", "(sum a num)"]), ("(get ? a)", ["(rec b *0 *1)", "*0"]),
            ("(get ? a)", ["(rec *1)", "*0"]), ("(get ? a)", ["(sum a *0)", "*0"]), ("(get ? a)", ["(rec a *0 *1)", "num"]), ("(get ? a)", ["*0", "*0"]),
            ("(put ? a 1)", ["(rec a *0)", "num", "(rec a num *1)"]), ("(put ? a 1)", ["(rec a *0 *1)", "num", "(rec a num *2)"]),
            ("(put ? a 1)", ["(rec a *0 *1)", "num", "(rec a *0 *1)"]), ("(put ? a 1)", ["(rec a *0 b num)", "num", "(rec a num)"]),
            ("(put ? a 1)", ["(rec b *0)", "num", "(rec a num b *0)"]), ("(put ? a 1)", ["(sum a *0)", "num", "(sum a num)"]),
            ("(put ? a 1)", ["(rec a *0 b num)", "num", "(rec a num b *0)"]), ("(tag a 1)", ["num", "(sum b num *0)"]),
            ("(tag a 1)", ["num", "(sum a *0 *1)"]), ("(tag a 1)", ["num", "(rec a num *0)"]), ("(tag a 1)", ["num", "*0"]),
            ("(case ? a x x)", ["(sum a num *0)", "num", "num"]), ("(case ? a x x)", ["(sum a num b num)", "num", "num"]),
            ("(case ? a x x)", ["(sum a *0)", "num", "num"]), ("(case ? a x x)", ["(rec a num)", "num", "num"]), ("(case ? a x x)", ["(sum a num)", "num", "*0"]),
            ("(case ? a x ? b y ?)", ["(sum a num b num)", "num", "*0", "num"]), ("(case ? a x ? b y y)", ["(sum a num b *0)", "num", "num", "num"]),
            ("(fun x (rec a x b x))", ["num", "*0", "(rec a num b *0)", "(fun num (rec a num b *0))"]),
        ):
            self.assertIs(shows_kinds(term_in(text), known, paper_of(text, *kinds)), False, f"{text} {kinds}")

    def test_own(self):
        text = "(fun x (call f x))"
        for kinds, right in ((["(fun num num)", "num", "num", "(fun num num)"], True), (["(fun num *0)", "num", "*0", "(fun num *0)"], True),
                             (["(fun num num)", "num", "num", "(fun num *0)"], False), (["(fun num *0)", "num", "*0", "(fun *0 *0)"], False)):
            self.assertIs(shows_kinds(term_in(text), [], paper_of(text, *kinds), own="f"), right)
        self.assertIs(shows_kinds(term_in("f"), [("f", NUM)], [((), ("rec", (), None))], own="f"), True)
        self.assertIs(shows_kinds(term_in("f"), [("f", NUM)], [((), ("rec", (), None))]), False)

    def test_numbers_in_two_ways_in_two_rows(self):
        for text, right, wrong in (
            # any and rest, rests behind unlike labels, rests of a rec and of a sum
            ("(rec a ? b (get ? l))", ["*0", "(rec l *1 *2)", "*1", "(rec a *0 b *1)"], ["*0", "(rec l *1 *0)", "*1", "(rec a *0 b *1)"]),
            ("(rec a (get ? a) b (get ? b))", ["(rec a *0 *1)", "*0", "(rec b *2 *3)", "*2", "(rec a *0 b *2)"],
             ["(rec a *0 *1)", "*0", "(rec b *2 *1)", "*2", "(rec a *0 b *2)"]),
            ("(rec a (tag l 1) b (get ? l))", ["num", "(sum l num *0)", "(rec l num *1)", "num", "(rec a (sum l num *0) b num)"],
             ["num", "(sum l num *0)", "(rec l num *0)", "num", "(rec a (sum l num *0) b num)"]),
            ("(call (fun x 1) (get ? l))", ["num", "(fun *0 num)", "(rec l *0 *1)", "*0", "num"],
             ["num", "(fun *0 num)", "(rec l *0 *0)", "*0", "num"]),
        ):
            rows = list(zip(places_of(term_in(text)), [plain.kind_by(plain.grouped(kind)) for kind in wrong]))
            self.assertIs(shows_kinds(term_in(text), [], paper_of(text, *right)), True, right)
            self.assertIs(shows_kinds(term_in(text), [], rows), False, wrong)
        # the same number in the same way, in kinds that have nothing in common else
        self.assertIs(shows_kinds(term_in("(rec a ? b ?)"), [], paper_of("(rec a ? b ?)", "*0", "*0", "(rec a *0 b *0)")), True)
        rows = paper_of("(call (fun x ?) (rec))", "(rec *0)", "(fun (rec) (rec *0))", "(rec)", "(rec *0)")
        self.assertIs(shows_kinds(term_in("(call (fun x ?) (rec))"), [], rows), True)

    def test_bounds(self):
        known = [("c", kind_in("(fun *0 num)")), ("k", any_of(0))]
        for kind, right in ((wide(100), True), (wide(101), False), (deep(16), True), (deep(17), False), (wide(800), False)):
            self.assertIs(shows_kinds(("hole",), [], [((), kind)]), right)
            self.assertIs(shows_kinds(("name", "k"), known, [((), kind)]), right)
            self.assertIs(shows_kinds(("name", "g"), [("g", kind)], [((), kind)]), right)
        for kind, right in ((wide(98), True), (wide(99), False), (deep(15), True), (deep(16), False)):
            rows = [((0,), ("fun", kind, NUM)), ((1,), kind), ((), NUM)]
            self.assertIs(shows_kinds(term_in("(call c ?)"), known, rows), right)

    def test_one_thing_otherwise(self):
        known = known_of(*KNOWN)
        for text in ("(fun r (put r a (get r b)))", "(case ? a x x b y (call i y))", "(rec a (tag l 1) b (fun x x))"):
            term = term_in(text)
            paper = kinds_at(term, known)
            for k, row in enumerate(paper):
                rows = paper[:k] + paper[k + 1:]
                self.assertIs(shows_kinds(term, known, rows), False)
                self.assertIs(shows_kinds(term, known, rows[:k] + [row, row] + rows[k:]), False)
                if k + 1 < len(paper):
                    self.assertIs(shows_kinds(term, known, paper[:k] + [paper[k + 1], row] + paper[k + 2:]), False)
                for other in spoiled(row):
                    made = paper[:k] + [other] + paper[k + 1:]
                    right = isinstance(other, tuple) and len(other) == 2 and other[0] == row[0] and type(other[0]) is tuple
                    right = right and all(type(n) is int for n in other[0]) and plain.is_kind(other[1])
                    right = right and is_right(term, known, None, made)
                    self.assertIs(shows_kinds(term, known, made), right, made)
            self.assertIs(shows_kinds(term, known, tuple(paper)), False)
            self.assertIs(shows_kinds(term, known, paper[::-1]), False)
            self.assertIs(shows_kinds(term, known, [list(row) for row in paper]), False)
            self.assertIs(shows_kinds(term, known, []), False)

    def test_other_kinds_at_one_place(self):
        chance = random.Random(42)
        counts = {True: 0, False: 0}
        for _ in range(600):
            term, known, own = chance_asked(chance)
            if things_in(term) > 12:
                continue
            try:
                paper = kinds_at(term, known, own=own)
            except (Unknown, Clash):
                continue
            for _ in range(4):
                k = chance.randrange(len(paper))
                kind = chance.choice((chance_kind(chance, 2), any_of(77), chance.choice(paper)[1]))
                made = paper[:k] + [(paper[k][0], kind)] + paper[k + 1:]
                right = is_right(term, known, own, made)
                counts[right] += 1
                self.assertIs(shows_kinds(term, known, made, own=own), right, (term_text(term), [kind_text(row[1]) for row in made]))
        self.assertTrue(min(counts.values()) > 100, counts)

    def test_no_paper_where_rules_clash(self):
        chance = random.Random(43)
        for text in ("(add (rec) 1)", "(fun x (call x x))", "(call 1 ?)"):
            places = places_of(term_in(text))
            for _ in range(200):
                self.assertIs(shows_kinds(term_in(text), [], [(place, chance_kind(chance, 2)) for place in places]), False)

    def test_things_of_any_make(self):
        chance = random.Random(44)
        term = term_in("(fun x ?)")
        paper = kinds_at(term, [])
        for thing in [chance_thing(chance, 6) for _ in range(2000)] + deep_things(50):
            self.assertIs(shows_kinds(term, [], thing), False)
            self.assertIs(shows_kinds(term, [], [thing, thing]), False)
            self.assertIs(shows_kinds(term, [], [paper[0], thing]), False)
            self.assertIs(shows_kinds(term, [], [(thing, paper[0][1]), paper[1]]), repr(thing) == "(0,)")
            self.assertIs(shows_kinds(term, [], [(paper[0][0], thing), paper[1]]), False)
            self.assertIs(shows_kinds(("hole",), [], [((), thing)]), plain.is_kind(thing))

    def test_truths_are_no_numbers(self):
        term = term_in("(call (fun x x) ?)")
        paper = kinds_at(term, [])
        self.assertEqual([place for place, _ in paper], [(0, 0), (0,), (1,), ()])
        for k, place in ((0, (False, 0)), (0, (0, False)), (1, (False,)), (2, (True,))):
            self.assertEqual(place, paper[k][0])
            self.assertIs(shows_kinds(term, [], paper[:k] + [(place, paper[k][1])] + paper[k + 1:]), False)
        self.assertIs(shows_kinds(("hole",), [], [((), ("any", True))]), False)
        self.assertIs(shows_kinds(("hole",), [], [((), ("rec", (), False))]), False)


class Answers(unittest.TestCase):
    def test_lists_tuples_and_nothing_changed(self):
        known = known_of(*KNOWN)
        term = term_in("(call p (call inc one))")
        kept = copy.deepcopy((term, known))
        first = kinds_at(term, known)
        self.assertEqual(kinds_at(term, tuple(known)), first)
        self.assertIs(shows_kinds(term, tuple(known), first), True)
        again = list(first)
        first.reverse()
        first.append(None)
        self.assertEqual(kinds_at(term, known), again)
        self.assertEqual((term, known), kept)

    def test_own_by_its_name_alone(self):
        for asked in (lambda: kinds_at(("hole",), [], "f"), lambda: shows_kinds(("hole",), [], [], "f")):
            with self.assertRaises(TypeError):
                asked()


if __name__ == "__main__":
    unittest.main()
