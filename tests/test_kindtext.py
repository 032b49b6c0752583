import random
import unittest

from sealedkinds.errors import BadText
from sealedkinds.kinds import is_kind
from sealedkinds.kindtext import kind_in, kind_text
from tests import plain
from tests.test_kinds import KINDS
from tests.things import chance_kind, spoiled_texts

NUM = ("num",)

TEXTS = (
    ("num", NUM), ("*0", ("any", 0)), ("*10", ("any", 10)), ("*987654321", ("any", 987654321)),
    ("m.t", ("own", "m", "t")), ("num.num", ("own", "num", "num")), ("fun.rec", ("own", "fun", "rec")),
    ("(fun num *1)", ("fun", NUM, ("any", 1))), ("(rec)", ("rec", (), None)), ("(rec *3)", ("rec", (), 3)),
    ("(rec l num)", ("rec", (("l", NUM),), None)), ("(rec l num *0)", ("rec", (("l", NUM),), 0)),
    ("(rec l *0)", ("rec", (("l", ("any", 0)),), None)), ("(rec l *0 *1)", ("rec", (("l", ("any", 0)),), 1)),
    ("(rec l num m k.t)", ("rec", (("l", NUM), ("m", ("own", "k", "t"))), None)),
    ("(sum l num)", ("sum", (("l", NUM),), None)), ("(sum l num *2)", ("sum", (("l", NUM),), 2)),
    ("(sum num num rec (rec num num))", ("sum", (("num", NUM), ("rec", ("rec", (("num", NUM),), None))), None)),
    ("(fun (fun num num) (fun (rec) (sum a (rec a num *5) *0)))",
     ("fun", ("fun", NUM, NUM), ("fun", ("rec", (), None), ("sum", (("a", ("rec", (("a", NUM),), 5)),), 0)))),
)

NO_TEXTS = (
    "", " ", "num ", " num", "num num", "Num", "*", "*00", "*01", "*-1", "* 1", "*1 ", "*a", "*\u0661", "*1.t", "1", "?",
    "m", "m.", ".t", ".", "m.t.u", "m .t", "m. t", "M.t", "abcdefghi.t", "m.abcdefghi", "m.t1", "(num)", "(*0)", "(m.t)",
    "()", "(", ")", "(fun)", "(fun num)", "(fun num num num)", "(fun  num num)", "(fun num num )", "( fun num num)",
    "(fun num num", "fun num num)", "(fun num num))", "((fun num num))", "(fun num num) ", "(fun num num)num",
    "(fun num num) num", "(fun num (num))", "(fun\tnum num)", "(fun num\nnum)", "(fun (rec)num)", "(fun(rec) num)",
    "(Rec)", "(rec )", "(rec l)", "(rec l num m)", "(rec num)", "(rec (rec) num)", "(rec l num *01)", "(rec l num *)",
    "(rec l num num)", "(rec *0 *0)", "(rec *0 l num)", "(rec m num l num)", "(rec l num l num)", "(rec l num k)",
    "(rec L num)", "(rec abcdefghi num)", "(rec l num k.t)", "(sum)", "(sum *0)", "(sum l)", "(sum m num l num)",
    "(fun *0 (rec *0))", "(rec l *0 *0)", "(fun (rec l num *0) (sum l num *0))", "(fun (rec l num *0) (rec m num *0))",
    "(fun (sum l num *0) (sum k num *0))", "(any 0)", "(own m t)", "(rec) (rec)", "\u00e4.t", "(rec l (rec)", "(rec l num)num",
    "(((((", ")))))", "(rec l num) )", "\n", "num\n", "(fun x x)", "*+1", "*1_0", "* ", "**0", "(rec a num * 0)",
)


class KindText(unittest.TestCase):
    def test_each_sort_there_and_back(self):
        for text, kind in TEXTS:
            self.assertEqual(kind_text(kind), text)
            self.assertEqual(kind_in(text), kind)

    def test_chance_kinds(self):
        chance = random.Random(8)
        for kind in list(KINDS) + [chance_kind(chance, 6) for _ in range(300)]:
            self.assertEqual(kind_text(kind), plain.kind_text(kind))
            self.assertEqual(kind_in(plain.kind_text(kind)), plain.kind_in(kind_text(kind)))
            self.assertEqual(kind_in(kind_text(kind)), kind)

    def test_figures_of_any_length(self):
        for n in (10 ** 17, 10 ** 18 - 1, 10 ** 18, 10 ** 18 + 5, 10 ** 36, 10 ** 37 + 10 ** 19, 3 ** 500):
            self.assertEqual(kind_text(("any", n)), f"*{n}")
            self.assertEqual(kind_in(f"*{n}"), ("any", n))
        text = "*" + "7" * 9000
        self.assertEqual(kind_text(kind_in(text)), text)

    def test_great_depth(self):
        text = "(fun num " * 4000 + "num" + ")" * 4000
        self.assertEqual(kind_text(kind_in(text)), text)


class Refused(unittest.TestCase):
    def refused(self, text):
        with self.assertRaises(BadText) as caught:
            kind_in(text)
        self.assertEqual(caught.exception.what, text)

    def test_no_texts(self):
        for text in NO_TEXTS:
            with self.subTest(text):
                self.refused(text)

    def test_great_texts(self):
        for text in ("(" * 20000, ")" * 20000, "(fun num " * 5000, "(fun num " * 5000 + "num" + ")" * 4999,
                     "*0" + "0" * 9000, "*" + "0" * 9000):
            self.refused(text)

    def test_one_thing_otherwise(self):
        for right, _ in TEXTS:
            for text in spoiled_texts(right):
                try:
                    kind = kind_in(text)
                except BadText as refusal:
                    self.assertEqual(refusal.what, text)
                    self.assertIsNone(plain.kind_in(text), text)
                else:
                    self.assertIs(is_kind(kind), True)
                    self.assertEqual(kind, plain.kind_in(text))


if __name__ == "__main__":
    unittest.main()
