import copy
import random
import unittest

from sealedkinds.errors import NoPlace
from sealedkinds.terms import is_term, named_in, part_at, places_of, things_in, with_at
from sealedkinds.termtext import term_in, term_text
from tests import plain
from tests.things import chance_term, chance_thing, deep_things, spoiled

X = ("name", "x")
ONE = ("num", 1)

TERMS = (
    ("num", 0), ("num", 99990), ONE, X, ("name", "abcdefgh"), ("from", "m", "x"), ("hole",), ("fun", "x", X), ("call", X, ONE),
    ("add", X, ONE), ("less", X, ONE), ("times", X, ONE), ("under", X, ONE, X, ("hole",)), ("rec", ()), ("rec", (("a", ONE),)),
    ("rec", (("a", ONE), ("ab", X), ("b", X))), ("get", X, "l"), ("put", X, "l", ONE), ("tag", "l", X),
    ("case", X, (("a", "x", X),)), ("case", X, (("a", "x", X), ("b", "x", ONE), ("num", "y", X))),
    ("fun", "num", ("call", ("name", "fun"), ("rec", (("rec", ("tag", "case", ("hole",))),)))),
)

NO_TERMS = (
    # parts too many and too few
    (), ("num",), ("num", 1, 1), ("name",), ("name", "x", "x"), ("from",), ("from", "m"), ("from", "m", "x", "x"),
    ("hole", 0), ("hole", X), ("fun",), ("fun", "x"), ("fun", "x", X, X), ("call",), ("call", X), ("call", X, X, X),
    ("add", X), ("add", X, X, X), ("less", X), ("less", X, X, X), ("times", X), ("times", X, X, X), ("under", X, X, X),
    ("under", X, X, X, X, X), ("rec",), ("rec", (), ()), ("rec", (), None), ("get",), ("get", X), ("get", X, "l", "l"),
    ("put", X, "l"), ("put", X, "l", X, X), ("tag", "l"), ("tag", "l", X, X), ("case", X), ("case", X, (("a", "x", X),), None),
    ("case", X, (("a", "x"),)), ("case", X, (("a", "x", X, X),)), ("case", X, ((),)), ("rec", (("a",),)),
    ("rec", (("a", X, X),)), ("rec", ((),)),
    # a case without ways
    ("case", X, ()),
    # lists for tuples
    ["num", 1], ["name", "x"], ["from", "m", "x"], ["hole"], ["fun", "x", X], ("fun", "x", ["name", "x"]), ["call", X, X],
    ("call", X, ["num", 1]), ["rec", ()], ("rec", []), ("rec", [("a", X)]), ("rec", (["a", X],)), ["get", X, "l"],
    ["put", X, "l", X], ["tag", "l", X], ["case", X, (("a", "x", X),)], ("case", X, [("a", "x", X)]),
    ("case", X, (["a", "x", X],)), ("case", ["hole"], (("a", "x", X),)), ["under", X, X, X, X],
    # labels that don't rise, and twice
    ("rec", (("b", X), ("a", X))), ("rec", (("a", X), ("a", X))), ("case", X, (("b", "x", X), ("a", "x", X))),
    ("case", X, (("a", "x", X), ("a", "y", X))), ("rec", (("a", X), ("c", X), ("b", X))),
    # names
    ("name", ""), ("name", "abcdefghi"), ("name", 0), ("name", None), ("name", "X"), ("name", ("x",)), ("name", "x1"),
    ("name", "\u00e4"), ("name", "x\n"), ("from", "", "x"), ("from", "m", ""), ("from", "abcdefghi", "x"), ("from", "m", 0),
    ("from", ("m", "x")), ("fun", "", X), ("fun", "abcdefghi", X), ("fun", X, X), ("fun", 0, X), ("fun", None, X),
    ("get", X, ""), ("get", X, "abcdefghi"), ("get", X, 0), ("get", "l", X), ("put", X, "", X), ("put", X, 0, X),
    ("put", X, X, "l"), ("tag", "", X), ("tag", 0, X), ("tag", X, "l"), ("rec", (("", X),)), ("rec", ((0, X),)),
    ("rec", (("abcdefghi", X),)), ("case", X, (("", "x", X),)), ("case", X, (("a", "", X),)), ("case", X, (("a", 0, X),)),
    ("case", X, (("a", X, "x"),)), ("case", X, ((0, "x", X),)), ("case", X, (("a", "x", X), (0, "x", X))),
    ("rec", (("a", X), (None, X))), ("rec", ((["a"], X),)),
    # numbers
    ("num", -1), ("num", 99991), ("num", 10 ** 30), ("num", True), ("num", False), ("num", None), ("num", "1"), ("num", (1,)),
    # others
    None, True, False, 0, 1, "", "x", "hole", [], ("holes",), ("",), (None,), (0,), (X,), (["hole"],), ("own", "m", "t"),
    ("any", 0), ("fun", X), ("fun", "x", None), ("fun", "x", "x"), ("call", X, "x"), ("rec", None), ("rec", "a"), ("rec", 0),
    ("rec", ("ax",)), ("case", X, None), ("case", X, "abc"), ("case", X, ("abc",)), ("sum", (("a", X),), None), ("Hole",),
)


class IsTerm(unittest.TestCase):
    def test_each_sort(self):
        for term in TERMS:
            self.assertIs(is_term(term), True, term)

    def test_things_that_are_none(self):
        for thing in NO_TERMS:
            self.assertIs(is_term(thing), False, thing)
            self.assertIs(is_term(("call", X, thing)), False, thing)
            self.assertIs(is_term(("rec", (("a", thing),))), False, thing)
            self.assertIs(is_term(("case", X, (("a", "x", thing),))), False, thing)

    def test_one_thing_otherwise(self):
        for term in TERMS:
            for thing in spoiled(term):
                self.assertIs(is_term(thing), plain.is_term(thing), thing)

    def test_things_of_any_make(self):
        chance = random.Random(14)
        for _ in range(3000):
            thing = chance_thing(chance, 6)
            self.assertIs(is_term(thing), plain.is_term(thing), thing)
            self.assertIs(is_term(("call", thing, X)), plain.is_term(("call", thing, X)), thing)
        for thing in deep_things(50):
            self.assertIs(is_term(thing), False)

    def test_terms_fifty_deep(self):
        term = X
        for _ in range(16):
            term = ("case", X, (("a", "x", term),))
        for _ in range(30):
            term = ("fun", "x", term)
        self.assertIs(is_term(term), True)
        self.assertIs(is_term(("fun", "x", ("call", term, ("num", 99991)))), False)


class Places(unittest.TestCase):
    def test_in_order(self):
        for text, places in (
            ("x", [()]), ("7", [()]), ("m.x", [()]), ("?", [()]), ("(rec)", [()]), ("(fun x x)", [(0,), ()]),
            ("(call x y)", [(0,), (1,), ()]), ("(get x l)", [(0,), ()]), ("(put x l y)", [(0,), (1,), ()]),
            ("(tag l x)", [(0,), ()]), ("(under 1 2 3 4)", [(0,), (1,), (2,), (3,), ()]),
            ("(rec a 1 b (fun x x) c 3)", [(0,), (1, 0), (1,), (2,), ()]),
            ("(case (tag a 1) a x (add x 1) b y y)", [(0, 0), (0,), (1, 0), (1, 1), (1,), (2,), ()]),
            ("(add (less 1 2) (times 3 ?))", [(0, 0), (0, 1), (0,), (1, 0), (1, 1), (1,), ()]),
        ):
            self.assertEqual(places_of(term_in(text)), places)
            self.assertEqual(things_in(term_in(text)), len(places))

    def test_part_and_other_at_each(self):
        term = term_in("(case (put r a 1) a x (under x 1 (get r b) ?) b y (rec a (fun z z) b (tag c y)))")
        for place, text in (((0,), "(put r a 1)"), ((0, 0), "r"), ((0, 1), "1"), ((1, 2, 0), "r"), ((1, 3), "?"),
                            ((2, 0, 0), "z"), ((2, 1), "(tag c y)"), ((), term_text(term))):
            self.assertEqual(part_at(term, place), term_in(text))
        for place, text in (
            ((0,), "(case new a x (under x 1 (get r b) ?) b y (rec a (fun z z) b (tag c y)))"),
            ((0, 1), "(case (put r a new) a x (under x 1 (get r b) ?) b y (rec a (fun z z) b (tag c y)))"),
            ((1, 2), "(case (put r a 1) a x (under x 1 new ?) b y (rec a (fun z z) b (tag c y)))"),
            ((2, 0, 0), "(case (put r a 1) a x (under x 1 (get r b) ?) b y (rec a (fun z new) b (tag c y)))"),
            ((2,), "(case (put r a 1) a x (under x 1 (get r b) ?) b y new)"), ((), "new"),
        ):
            self.assertEqual(with_at(term, place, ("name", "new")), term_in(text))

    def test_against_plain(self):
        chance = random.Random(15)
        for _ in range(400):
            term = chance_term(chance, 5)
            spots = plain.spots(term)
            self.assertEqual(places_of(term), [spot[0] for spot in spots])
            self.assertEqual(things_in(term), len(spots))
            for place, part, _ in spots:
                self.assertEqual(part_at(term, place), part)
                self.assertEqual(with_at(term, place, part), term)
                made = with_at(term, place, ("from", "new", "new"))
                self.assertTrue(is_term(made))
                self.assertEqual(part_at(made, place), ("from", "new", "new"))
                self.assertEqual(with_at(made, place, part), term)

    def test_places_that_arent_there(self):
        for text, places in (
            ("x", [(0,), (-1,), (1,), (0, 0)]), ("(rec)", [(0,), (-1,)]), ("(fun x x)", [(1,), (-1,), (0, 0), (0, -1), (2, 0)]),
            ("(call x y)", [(2,), (-1,), (-2,), (1, 0), (-1, 0), (10 ** 30,), (-10 ** 30,)]), ("(get x l)", [(1,), (2,), (-1,)]),
            ("(put x l y)", [(2,), (3,), (-2,), (0, 0)]), ("(tag l x)", [(1,), (-1,)]), ("m.x", [(0,)]), ("?", [(0,)]),
            ("(case x a y y)", [(2,), (-1,), (-2,), (1, 0), (0, 0)]), ("(rec a (rec b 1))", [(1,), (0, 1), (0, 0, 0), (0, -1)]),
            ("(under 1 2 3 4)", [(4,), (-4,)]), ("7", [(0,)] + [(0,) * 50]),
        ):
            for place in places:
                for asked in (lambda: part_at(term_in(text), place), lambda: with_at(term_in(text), place, X)):
                    with self.subTest(f"{text} {place}"), self.assertRaises(NoPlace) as caught:
                        asked()
                    self.assertEqual(caught.exception.what, place)

    def test_changing_what_is_told(self):
        term = term_in("(call x y)")
        first = places_of(term)
        first.reverse()
        first.append(None)
        self.assertEqual(places_of(term), [(0,), (1,), ()])

    def test_nothing_is_changed(self):
        term = term_in("(case x a y (rec b y) c z (call z z))")
        kept = copy.deepcopy(term)
        with_at(term, (1, 0), ("hole",))
        named_in(term)
        self.assertEqual(term, kept)


class NamedIn(unittest.TestCase):
    def test_names_and_froms(self):
        for text, named in (
            ("x", [((), "x")]), ("m.x", [((), ("m", "x"))]), ("7", []), ("?", []), ("(fun x x)", []), ("(fun x y)", [((0,), "y")]),
            ("(call x (fun x x))", [((0,), "x")]), ("(call (fun x x) x)", [((1,), "x")]), ("(fun x m.x)", [((0,), ("m", "x"))]),
            ("(fun x (fun x x))", []), ("(fun x (fun y (call x (call y z))))", [((0, 0, 1, 1), "z")]),
            ("(fun x (call (fun y y) y))", [((0, 1), "y")]),
            # a way's name is bound in that way's term alone
            ("(case x a x x)", [((0,), "x")]), ("(case x a y x b z y)", [((0,), "x"), ((1,), "x"), ((2,), "y")]),
            ("(case (fun y y) a y y b x y)", [((2,), "y")]), ("(case y a y (case y b z (call y z)))", [((0,), "y")]),
            # neither labels nor names that bind are named
            ("(get (put (rec l 1) l (tag l ?)) l)", []), ("(add m.x (times x k.y))", [((0,), ("m", "x")), ((1, 0), "x"), ((1, 1), ("k", "y"))]),
            ("(under x y x y)", [((0,), "x"), ((1,), "y"), ((2,), "x"), ((3,), "y")]),
        ):
            self.assertEqual(named_in(term_in(text)), named, text)

    def test_against_plain(self):
        chance = random.Random(16)
        for _ in range(500):
            term = chance_term(chance, 6)
            named = []
            for place, part, scope in plain.spots(term):
                if part[0] == "from":
                    named.append((place, part[1:]))
                elif part[0] == "name" and part[1] not in [name for name, _ in scope]:
                    named.append((place, part[1]))
            self.assertEqual(named_in(term), named)

    def test_changing_what_is_told(self):
        first = named_in(X)
        first.clear()
        self.assertEqual(named_in(X), [((), "x")])


class Great(unittest.TestCase):
    def test_terms_of_great_depth(self):
        term = X
        for _ in range(1500):
            term = ("fun", "x", ("tag", "a", term))
        self.assertIs(is_term(term), True)
        self.assertEqual(things_in(term), 3001)
        self.assertEqual(named_in(term), [])
        self.assertEqual(part_at(term, (0,) * 3000), X)
        self.assertEqual(named_in(with_at(term, (0,) * 3000, ("name", "y"))), [((0,) * 3000, "y")])


if __name__ == "__main__":
    unittest.main()
