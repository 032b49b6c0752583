import random
import unittest

from sealedkinds.errors import BadRow
from sealedkinds.modules import is_module
from sealedkinds.moduletext import module_in, module_text
from tests import plainmodules
from tests.chancemodules import chance_module
from tests.test_modules import MODULES

TEXTS = (
    ("module m\nlet x 1", MODULES[0]),
    ("module abcdefgh\nuses a b\nseal s num\nseal t (rec a num)\ntell f (fun abcdefgh.s a.t)\ntell g (fun *0 *0)\nlet g (fun x x)\nlet f ?",
     MODULES[1]),
    ("module m\nuses k\nseal m (sum a num b (fun num num))\ntell m (rec a m.m b k.m *0)\ntell x (fun *0 (rec a *1 *2))\nlet x ?\nlet m ?\nlet k ?",
     MODULES[2]),
    ("module fun\nuses let module uses\nlet tell (call tell let.x)", MODULES[3]),
)

# texts with the row of which they are refused
WRONG = (
    # the empty text, and what lacks
    ("", 0), ("\n", 0), ("module m", 1), ("module m\n", 1), ("module m\nuses a", 2), ("module m\nuses a\nseal s num\ntell x num", 4),
    ("module m\nseal s num", 2), ("module m\ntell x num", 2),
    # the first row
    ("let x 1", 0), ("uses a\nmodule m\nlet x 1", 0), ("modul m\nlet x 1", 0), ("module\nlet x 1", 0), ("module \nlet x 1", 0), ("module  m\nlet x 1", 0),
    (" module m\nlet x 1", 0), ("module m \nlet x 1", 0), ("module M\nlet x 1", 0), ("module abcdefghi\nlet x 1", 0), ("module m n\nlet x 1", 0),
    ("Module m\nlet x 1", 0), ("module m\rlet x 1", 0), ("m\nlet x 1", 0),
    # rows of no sort, empty rows, rows behind the end
    ("module m\n\nlet x 1", 1), ("module m\nlet x 1\n", 2), ("module m\nlet x 1\n\n", 2), ("module m\nlet x 1\n ", 2), ("module m\nlets x 1", 1),
    ("module m\nlet x 1\nend", 2), ("module m\n let x 1", 1), ("module m\nlet x 1 ", 1), ("module m\nletx 1", 1), ("module m\nlet\nlet x 1", 1),
    # once, and in that order
    ("module m\nmodule m\nlet x 1", 1), ("module m\nmodule n\nlet x 1", 1), ("module m\nuses a\nmodule m\nlet x 1", 2), ("module m\nuses a\nuses b\nlet x 1", 2),
    ("module m\nuses a\nuses a\nlet x 1", 2), ("module m\nseal s num\nuses a\nlet x 1", 2), ("module m\ntell x num\nuses a\nlet x 1", 2),
    ("module m\nlet x 1\nuses a", 2), ("module m\ntell x num\nseal s num\nlet x 1", 2), ("module m\nlet x 1\nseal s num", 2),
    ("module m\nlet x 1\ntell x num", 2), ("module m\nlet x 1\nmodule m", 2), ("module m\nlet x 1\ntell x num\nlet y 1", 2),
    # uses
    ("module m\nuses\nlet x 1", 1), ("module m\nuses \nlet x 1", 1), ("module m\nuses b a\nlet x 1", 1), ("module m\nuses a a\nlet x 1", 1),
    ("module m\nuses m\nlet x 1", 1), ("module m\nuses a m z\nlet x 1", 1), ("module m\nuses a  b\nlet x 1", 1), ("module m\nuses a b \nlet x 1", 1),
    ("module m\nuses A\nlet x 1", 1), ("module m\nuses abcdefghi\nlet x 1", 1), ("module m\nuses a.b\nlet x 1", 1),
    # seals
    ("module m\nseal\nlet x 1", 1), ("module m\nseal s\nlet x 1", 1), ("module m\nseal s \nlet x 1", 1), ("module m\nseal S num\nlet x 1", 1),
    ("module m\nseal abcdefghi num\nlet x 1", 1), ("module m\nseal s nums\nlet x 1", 1), ("module m\nseal s *0\nlet x 1", 1), ("module m\nseal s (rec *0)\nlet x 1", 1),
    ("module m\nseal s m.s\nlet x 1", 1), ("module m\nseal s k.t\nlet x 1", 1), ("module m\nseal s num\nseal s num\nlet x 1", 2),
    ("module m\nseal t num\nseal s num\nlet x 1", 2), ("module m\nseal s  num\nlet x 1", 1), ("module m\nseal s num \nlet x 1", 1), ("module m\nseal s num num\nlet x 1", 1),
    # what is told
    ("module m\ntell\nlet x 1", 1), ("module m\ntell x\nlet x 1", 1), ("module m\ntell X num\nlet x 1", 1), ("module m\ntell x *1\nlet x 1", 1),
    ("module m\ntell x (fun *1 *0)\nlet x 1", 1), ("module m\ntell x (rec a *1 *0)\nlet x 1", 1), ("module m\ntell x m.s\nlet x 1", 1),
    ("module m\nseal s num\ntell x m.t\nlet x 1", 2), ("module m\ntell x num\ntell x num\nlet x 1", 2), ("module m\ntell y num\ntell x num\nlet x 1", 2),
    ("module m\ntell x (fun num *00)\nlet x 1", 1), ("module m\ntell x (rec b num a num)\nlet x 1", 1), ("module m\ntell abcdefghi num\nlet x 1", 1),
    # definitions
    ("module m\nlet x", 1), ("module m\nlet x ", 1), ("module m\nlet X 1", 1), ("module m\nlet abcdefghi 1", 1), ("module m\nlet x 01", 1), ("module m\nlet x 99991", 1),
    ("module m\nlet x (fun x)", 1), ("module m\nlet x 1 1", 1), ("module m\nlet x 1\nlet x 1", 2), ("module m\nlet x 1\nlet y 2\nlet x ?", 3),
    ("module m\nlet y 1\nlet x (add 1)", 2), ("module m\nlet  x 1", 1), ("module m\nlet x *0", 1),
    # of several wrong rows the first one
    ("module m\nuses b a\nseal s *0\nlet x", 1), ("module m\nseal s num\ntell x *1\nlet X", 2), ("module m\nlet x 1\nlet x 1\nlet x", 2), ("module M\nuses\n", 0),
)


class ModuleText(unittest.TestCase):
    def test_there_and_back(self):
        for text, module in TEXTS:
            self.assertEqual(module_text(module), text)
            self.assertEqual(module_in(text), module)
        chance = random.Random(54)
        for _ in range(300):
            module = chance_module(chance)
            self.assertEqual(module_text(module), plainmodules.module_text(module))
            self.assertEqual(module_in(module_text(module)), module)

    def test_great_texts(self):
        term = "(get (rec a " * 1000 + "1" + ") a)" * 1000
        kind = "(fun num " * 1000 + "num" + ")" * 1000
        text = f"module m\nseal s {kind}\ntell x {kind}\nlet x {term}"
        self.assertEqual(module_text(module_in(text)), text)
        rows = [f"let {one}{other} 1" for one in "abcdefgh" for other in "abcdefgh"]
        text = "\n".join(["module m"] + rows)
        self.assertEqual(len(module_in(text)[4]), 64)
        with self.assertRaises(BadRow) as caught:
            module_in(text + "\nlet aa 1")
        self.assertEqual(caught.exception.what, 65)


class Refused(unittest.TestCase):
    def refused(self, text, row):
        with self.assertRaises(BadRow) as caught:
            module_in(text)
        self.assertEqual(caught.exception.what, row, text)
        self.assertIs(type(caught.exception.what), int)

    def test_wrong_rows(self):
        for text, row in WRONG:
            self.assertEqual(plainmodules.module_in(text), row, text)
            self.refused(text, row)

    def test_class(self):
        with self.assertRaises(ValueError):
            module_in("")
        self.assertEqual(BadRow.__bases__, (ValueError,))

    def test_a_sign_otherwise(self):
        for right, _ in TEXTS[:2]:
            for k in range(len(right) + 1):
                for sign in " \nmsx1*.(A":
                    self.compare(right[:k] + sign + right[k:])
                    self.compare(right[:k] + sign + right[k + 1:])
                self.compare(right[:k] + right[k + 1:])
                self.compare(right[:k])

    def compare(self, text):
        expected = plainmodules.module_in(text)
        if isinstance(expected, int):
            self.refused(text, expected)
        else:
            self.assertEqual(module_in(text), expected)
            self.assertTrue(is_module(expected))

    def test_rows_otherwise(self):
        chance = random.Random(55)
        texts = [text for text, _ in TEXTS] + [module_text(chance_module(chance, name)) for name in ("m", "k", "zz") for _ in range(4)]
        for text in texts:
            rows = text.split("\n")
            for k, row in enumerate(rows):
                self.compare("\n".join(rows[:k] + rows[k + 1:]))
                self.compare("\n".join(rows[:k] + [row, row] + rows[k + 1:]))
                self.compare("\n".join(rows[:k] + [""] + rows[k:]))
                self.compare("\n".join(rows[:k]))
                for j in range(k):
                    other = list(rows)
                    other[j], other[k] = row, rows[j]
                    self.compare("\n".join(other))
                words = row.split(" ")
                for word in ("module", "uses", "seal", "tell", "let", "other", ""):
                    self.compare("\n".join(rows[:k] + [" ".join([word] + words[1:])] + rows[k + 1:]))
                for other in ("module z", "uses z", "seal z num", "tell z num", "let z 1", "let", "z"):
                    self.compare("\n".join(rows[:k] + [other] + rows[k:]))
            self.compare(text + "\n")
            self.compare("\n" + text)


if __name__ == "__main__":
    unittest.main()
