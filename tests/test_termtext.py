import random
import unittest

from sealedkinds.errors import BadText
from sealedkinds.terms import is_term
from sealedkinds.termtext import term_in, term_text
from tests import plain
from tests.test_terms import TERMS
from tests.things import chance_term, spoiled_texts

X = ("name", "x")
ONE = ("num", 1)

TEXTS = (
    ("0", ("num", 0)), ("1", ONE), ("10", ("num", 10)), ("99990", ("num", 99990)), ("x", X), ("abcdefgh", ("name", "abcdefgh")),
    ("fun", ("name", "fun")), ("num", ("name", "num")), ("m.x", ("from", "m", "x")), ("rec.case", ("from", "rec", "case")),
    ("?", ("hole",)), ("(fun x x)", ("fun", "x", X)), ("(fun fun fun)", ("fun", "fun", ("name", "fun"))),
    ("(call x 1)", ("call", X, ONE)), ("(add x 1)", ("add", X, ONE)), ("(less x 1)", ("less", X, ONE)),
    ("(times x 1)", ("times", X, ONE)), ("(under x 1 ? m.x)", ("under", X, ONE, ("hole",), ("from", "m", "x"))),
    ("(rec)", ("rec", ())), ("(rec l x)", ("rec", (("l", X),))), ("(rec l x m 1)", ("rec", (("l", X), ("m", ONE)))),
    ("(get x l)", ("get", X, "l")), ("(put x l 1)", ("put", X, "l", ONE)), ("(tag l x)", ("tag", "l", X)),
    ("(case x l x 1)", ("case", X, (("l", "x", ONE),))),
    ("(case x l x 1 m y (fun z z))", ("case", X, (("l", "x", ONE), ("m", "y", ("fun", "z", ("name", "z")))))),
    ("(put (get (rec a (rec)) a) a (tag b ?))",
     ("put", ("get", ("rec", (("a", ("rec", ())),)), "a"), "a", ("tag", "b", ("hole",)))),
)

NO_TEXTS = (
    "", " ", "x ", " x", "x x", "X", "xY", "abcdefghi", "x1", "1x", "00", "01", "007", "-1", "+1", "1_0", "99991", "100000",
    "099990", "999999", "99990 ", "1.0", "1.x", "m.1", "m.", ".x", ".", "m.x.y", "m .x", "m. x", "abcdefghi.x", "m.abcdefghi",
    "M.x", "??", "?x", "? ", "*0", "(x)", "(1)", "(?)", "(hole)", "(num 1)", "(name x)", "(from m x)", "(call (name x) 1)",
    "(call (hole) 1)", "(call (num 1) 1)", "()", "(", ")", "(fun)", "(fun x)", "(fun x x x)", "(fun (fun x x) x)", "(fun 1 x)",
    "(fun ? x)", "(fun m.x x)", "(fun abcdefghi x)", "(fun  x x)", "(fun x  x)", "(fun x x )", "( fun x x)", "(fun x x", "fun x x)",
    "(fun x x))", "((fun x x))", "(fun x x) ", "(fun x x)x", "(fun x x) x", "(fun x (x))", "(fun\tx x)", "(fun x\nx)",
    "(Fun x x)", "(call x)", "(call x 1 1)", "(call)", "(add 1)", "(add 1 2 3)", "(less 1)", "(times 1 2 3)", "(under 1 2 3)",
    "(under 1 2 3 4 5)", "(add 1 02)", "(add 1 99991)", "(rec )", "(rec l)", "(rec l x m)", "(rec m x l 1)", "(rec l x l x)",
    "(rec 1 x)", "(rec L x)", "(rec abcdefghi x)", "(rec (rec) x)", "(rec l x *0)", "(get x)", "(get x 1)", "(get x l l)",
    "(get l (rec))", "(get x L)", "(put x l)", "(put x 1 l)", "(put x l 1 1)", "(put x l 1 m 1)", "(tag x)", "(tag 1 x)",
    "(tag l x x)", "(tag (rec) l)", "(case x)", "(case)", "(case x l)", "(case x l x)", "(case x l x 1 m)", "(case x l x 1 m y)",
    "(case x m x 1 l x 1)", "(case x l x 1 l x 1)", "(case x l 1 1)", "(case x 1 x 1)", "(case x l m.x 1)", "(other x y)",
    "\u00e4", "\u0661", "\u00b2", "1\u0661", "(add 1 \u0662)", "(rec l (rec)", "(((((", ")))))", "x\n", "\n", "(fun x(fun y y))",
)


class TermText(unittest.TestCase):
    def test_each_sort_there_and_back(self):
        for text, term in TEXTS:
            self.assertEqual(term_text(term), text)
            self.assertEqual(term_in(text), term)

    def test_chance_terms(self):
        chance = random.Random(17)
        for term in list(TERMS) + [chance_term(chance, 6) for _ in range(300)]:
            self.assertEqual(term_text(term), plain.term_text(term))
            self.assertEqual(term_in(term_text(term)), term)

    def test_numbers_to_their_bound(self):
        for n in (0, 9, 10, 99, 9999, 10000, 99989, 99990):
            self.assertEqual(term_in(str(n)), ("num", n))
        for n in (99991, 99999, 100000, 999900, 10 ** 18):
            with self.assertRaises(BadText) as caught:
                term_in(str(n))
            self.assertEqual(caught.exception.what, str(n))

    def test_great_depth(self):
        text = "(call x " * 3000 + "x" + ")" * 3000
        self.assertEqual(term_text(term_in(text)), text)


class Refused(unittest.TestCase):
    def refused(self, text):
        with self.assertRaises(BadText) as caught:
            term_in(text)
        self.assertEqual(caught.exception.what, text)

    def test_no_texts(self):
        for text in NO_TEXTS:
            with self.subTest(text):
                self.refused(text)

    def test_great_texts(self):
        for text in ("(" * 20000, ")" * 20000, "(fun x " * 5000, "(fun x " * 5000 + "x" + ")" * 4999, "9" * 9000, "0" * 9000):
            self.refused(text)

    def test_one_thing_otherwise(self):
        for right, _ in TEXTS:
            for text in spoiled_texts(right):
                try:
                    term = term_in(text)
                except BadText as refusal:
                    self.assertEqual(refusal.what, text)
                    self.assertIsNone(plain.term_in(text), text)
                else:
                    self.assertIs(is_term(term), True)
                    self.assertEqual(term, plain.term_in(text))


if __name__ == "__main__":
    unittest.main()
