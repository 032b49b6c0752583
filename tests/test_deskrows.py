import random
import unittest

from sealedkinds.deskrows import deskrow_in
from sealedkinds.errors import BadRow
from sealedkinds.moduletext import module_in, module_text
from tests import plain, plainmodules
from tests.chancemodules import likely_whole
from tests.things import spoiled_texts

MODULE = "module m / uses a b / seal t (rec a num) / tell x (fun m.t *0) / let x (fun y ?) / let z (case x a y 1)"
PLAIN = module_in(MODULE.replace(" / ", "\n"))
ROWS = (
    ("put " + MODULE, ("put", PLAIN)), ("would " + MODULE, ("would", PLAIN)), ("put module m / let x 1", ("put", ("m", (), (), (), (("x", ("num", 1)),)))),
    ("drop m", ("drop", "m")), ("undo", ("undo",)), ("names", ("names",)), ("text abcdefgh", ("text", "abcdefgh")), ("users m", ("users", "m")),
    ("editions m", ("editions", "m")), ("fault m", ("fault", "m")), ("faults", ("faults",)), ("kinds kinds", ("kinds", "kinds")), ("mends m x", ("mends", "m", "x")),
    ("run m x", ("run", "m", "x")), ("use m.x", ("use", ("from", "m", "x"))), ("use (call (fun x x) (rec a 1 b ?))", ("use", plain.term_in("(call (fun x x) (rec a 1 b ?))"))),
    ("use 0", ("use", ("num", 0))), ("use (rec)", ("use", ("rec", ()))), ("parts m 0", ("parts", "m", 0)), ("parts m 17", ("parts", "m", 17)), ("parts m 5000", ("parts", "m", 5000)),
    ("again 1", ("again", 1)), ("again 30", ("again", 30)), ("again 5000", ("again", 5000)),
)
WRONG = (
    "", " ", "  ", "-", "putt", "put", "put ", "would", "drop", "drop ", "drop  m", " drop m", "drop m ", "drop m n", "drop M", "drop abcdefghi", "drop 1", "drop m.x", "drop -",
    "undo ", " undo", "undo 1", "undo undo", "names m", "names ", "Names", "text", "text m x", "users", "users m n", "editions", "editions m 0", "fault", "fault m x", "faults m",
    "faults ", "kinds", "kinds m x", "mends m", "mends m x y", "mends m  x", "mends m.x", "mends m X", "run m", "run m x 1", "run", "use", "use ", "use (", "use (add 1  2)",
    "use (add 1 2) ", "use  1", "use 1 2", "use m .x", "use 99991", "use 01", "use *0", "parts m", "parts m -1", "parts m 00", "parts m 01", "parts m 5001", "parts m 50000",
    "parts m x", "parts 0 m", "parts m 1 2", "parts m  1", "parts m +1", "parts m 1.", "parts m \u0661", "parts m \u00b2", "parts M 1", "parts m " + "9" * 5000, "again", "again 0", "again 00",
    "again 01", "again 5001", "again 10000", "again -1", "again x", "again 1 1", "again  1", "again 1 ", "again m", "again " + "1" * 5000, "put module m", "put module m /",
    "put module m / ", "put module m  / let x 1", "put module m /let x 1", "put module m/ let x 1", "put module m / / let x 1", "put module m / let x 1 /", "put module m / let x 1 / ",
    "put  module m / let x 1", "put let x 1", "put module m let x 1", "put module m\nlet x 1", "put module m / let x 1\n", "drop m\n", "\ndrop m", "undo\n", "use 1\n", "names\n",
    "put module m / let x 1 / let x 1", "put module m / uses m / let x 1", "put module m | let x 1", "put (module m / let x 1)", "put m", "would module m / tell x m.t / let x 1",
    "is_open", "log", "house", "ask names", "len", "whole", "again again", "use module m / let x 1", "put 1", "module m / let x 1",
)


def plain_row(text):
    """The row by its words; None where there's none."""
    words = text.split(" ")
    if "" in words or "\n" in text:
        return None
    head, behind = words[0], words[1:]
    if head in ("put", "would"):
        module = plainmodules.module_in(" ".join(behind).replace(" / ", "\n"))
        return (head, module) if isinstance(module, tuple) else None
    if head == "use":
        term = plain.term_in(" ".join(behind))
        return (head, term) if term is not None else None
    if head in ("undo", "names", "faults"):
        return (head,) if not behind else None
    if head in ("drop", "text", "users", "editions", "fault", "kinds", "mends", "run"):
        many = 2 if head in ("mends", "run") else 1
        return (head, *behind) if len(behind) == many and all(plain.is_name(word) for word in behind) else None
    if head == "parts" and len(behind) == 2 and plain.is_name(behind[0]) and behind[1] in [str(n) for n in range(5001)]:
        return (head, behind[0], int(behind[1]))
    if head == "again" and len(behind) == 1 and behind[0] in [str(n) for n in range(1, 5001)]:
        return (head, int(behind[0]))
    return None


class DeskrowIn(unittest.TestCase):
    def told(self, text):
        try:
            return deskrow_in(text)
        except BadRow as refusal:
            self.assertEqual(refusal.what, text)
            return None

    def test_each_sort(self):
        for text, row in ROWS:
            self.assertEqual(self.told(text), row)
            self.assertEqual(plain_row(text), row)

    def test_wrong_ones(self):
        for text in WRONG:
            self.assertIsNone(self.told(text), text)
            self.assertIsNone(plain_row(text), text)

    def test_one_thing_otherwise(self):
        for text, _ in ROWS:
            for other in spoiled_texts(text if len(text) < 60 else "put module m / seal t num / let x (rec a m.x)"):
                self.assertEqual(self.told(other), plain_row(other), other)
        for other in ("put module m / uses a / tell x num / let x 1",):
            for k in range(len(other) + 1):
                for more in (" / ", "/", " /", "/ ", "\n", " "):
                    for text in (other[:k] + more + other[k:], other[:k] + more + other[k + 1:], other[:k] + more + other[k + 3:]):
                        self.assertEqual(self.told(text), plain_row(text), text)

    def test_numbers(self):
        for n in list(range(0, 120)) + list(range(4980, 5020)) + [9999, 10000, 99999]:
            self.assertEqual(self.told(f"again {n}"), ("again", n) if 1 <= n <= 5000 else None)
            self.assertEqual(self.told(f"parts m {n}"), ("parts", "m", n) if n <= 5000 else None)

    def test_modules_by_chance(self):
        chance = random.Random(105)
        for _ in range(100):
            for module in likely_whole(chance):
                for word in ("put", "would"):
                    self.assertEqual(self.told(f"{word} " + module_text(module).replace("\n", " / ")), (word, module))
                self.assertIsNone(self.told("put " + module_text(module)) if "\n" in module_text(module) else None)

    def test_deep_ones(self):
        text = "1"
        for _ in range(3000):
            text = f"(tag a {text})"
        self.assertIsNotNone(self.told("use " + text))
        self.assertIsNone(self.told("use " + text + ")"))
        self.assertIsNotNone(self.told("put module m / let x " + text))


if __name__ == "__main__":
    unittest.main()
