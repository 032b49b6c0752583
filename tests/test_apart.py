import copy
import itertools
import random
import unittest

from sealedkinds.apart import fault_of, states
from sealedkinds.kinds import opened
from sealedkinds.kindtext import kind_in
from sealedkinds.modules import face_of, is_module
from sealedkinds.moduletext import module_in, module_text
from sealedkinds.opening import comes_to
from tests import plainmodules
from tests.chancemodules import chance_module, likely_whole
from tests.test_looking import deep, wide

FACES = (
    ("a", ("s",), (("f", kind_in("(fun num a.s)")), ("i", kind_in("(fun *0 *0)")), ("n", kind_in("num")))),
    ("b", (), (("f", kind_in("(fun a.s num)")), ("n", kind_in("(rec)")))),
    ("c", ("s", "t"), ()),
)


def module_of(*rows):
    """A module by its rows, but for the first one where none is written; the last one may lack."""
    rows = list(rows)
    if not rows[0].startswith("module"):
        rows.insert(0, "module m")
    return module_in("\n".join(rows))


class States(unittest.TestCase):
    def found(self, expected, *rows, faces=FACES):
        module = module_of(*rows)
        told = [(x, word, kind_in(what) if word == "kind" else what) for x, word, what in expected]
        self.assertEqual(states(module, faces), told)
        self.assertEqual(plainmodules.states(module, faces), told)

    def test_kinds(self):
        self.found([("x", "kind", "num")], "let x 1")
        self.found([("i", "kind", "(fun *0 *0)"), ("x", "kind", "(rec a num b (rec))")], "let i (fun x x)", "let x (rec a (call i 1) b (call i (rec)))")
        self.found([("x", "kind", "(rec a num b (rec))")], "uses a", "let x (rec a (call a.i 1) b (call a.i (rec)))")
        self.found([("x", "kind", "num"), ("y", "kind", "a.s"), ("z", "kind", "num")], "uses a b", "let x a.n", "let y (call a.f x)", "let z (call b.f y)")
        self.found([("x", "kind", "*0")], "let x ?")

    def test_clashes(self):
        self.found([("x", "clash", ()), ("y", "kind", "num")], "let x (add 1 (rec))", "let y 1")
        self.found([("x", "clash", (0,)), ("y", "clash", (1,))], "let x (rec a (call 1 1))", "let y (rec a 1 b (call 1 1))")
        self.found([("x", "clash", ())], "uses a b", "let x (call b.f a.n)")
        # a seal can't be seen through, also one of its own
        self.found([("x", "clash", ())], "uses a", "let x (add (call a.f 1) 1)")

    def test_kinds_too_great(self):
        faces = [("a", (), (("g", wide(101)), ("k", wide(100)), ("n", deep(17)), ("o", deep(16))))]
        module = module_of("uses a", "let f a.g", "let g a.k", "let h (rec a a.k)", "let i a.n", "let j (rec a 1 b (rec c a.o))", "let k g", "let l h")
        self.assertEqual(states(module, faces), [
            ("f", "clash", ()), ("g", "kind", wide(100)), ("h", "clash", ()), ("i", "clash", ()), ("j", "clash", (1,)),
            ("k", "kind", wide(100)), ("l", "leans", "h")])

    def test_unknown(self):
        self.found([("x", "unknown", ())], "let x y")
        # what stands behind, and is not used, not told, of no face
        self.found([("x", "unknown", (1,)), ("y", "kind", "num")], "let x (add 1 y)", "let y 1")
        self.found([("x", "unknown", ())], "let x a.n")
        self.found([("x", "unknown", ())], "uses b", "let x a.n")
        self.found([("x", "unknown", ())], "uses a", "let x a.z")
        self.found([("x", "unknown", ())], "uses z", "let x z.n")
        self.found([("x", "unknown", ())], "uses c", "let x c.s")
        self.found([("x", "kind", "num"), ("y", "unknown", ())], "let x 1", "let y m.x")
        self.found([("x", "unknown", (0,))], "uses a", "let x (call n a.n)")

    def test_leaning(self):
        self.found([("x", "clash", ()), ("y", "leans", "x"), ("z", "leans", "y"), ("w", "kind", "num")],
                   "let x (add 1 (rec))", "let y x", "let z (add y 1)", "let w 1")
        self.found([("x", "unknown", ()), ("y", "leans", "x")], "let x q", "let y (fun z (call x z))")
        # of several, by the first place in order that is either
        self.found([("x", "unknown", ()), ("y", "leans", "x"), ("z", "leans", "y")], "let x q", "let y (add x w)", "let z (call y x)")
        self.found([("x", "unknown", ()), ("y", "unknown", (0,)), ("z", "leans", "x")], "let x q", "let y (add w x)", "let z (call x y)")
        self.found([("x", "unknown", ()), ("y", "unknown", (0, 0))], "let x q", "let y (call (call a.n x) x)")
        self.found([("x", "clash", ()), ("y", "leans", "x")], "uses a", "let x (call 1 1)", "let y (call (call a.n x) a.z)")
        # ahead of a clash
        self.found([("x", "unknown", ()), ("y", "leans", "x")], "let x q", "let y (call (call 1 1) x)")
        self.found([("x", "kind", "num"), ("y", "unknown", (1,))], "let x 1", "let y (call (call 1 1) z)")

    def test_own_and_bound_names(self):
        self.found([("f", "kind", "(fun num num)")], "let f (fun n (under n 1 0 (add 1 (call f n))))")
        self.found([("f", "clash", (0, 1))], "let f (fun n (rec a (call f 1) b (call f (rec))))")
        self.found([("f", "clash", ()), ("g", "kind", "(fun *0 *0)"), ("h", "kind", "(fun (sum a *0) *0)")],
                   "let f (call 1 1)", "let g (fun f f)", "let h (fun s (case s a f f))")
        self.found([("x", "kind", "*0"), ("y", "kind", "num")], "let x x", "let y (add x 1)")
        # a module's name and a value's are no names
        self.found([("a", "kind", "num"), ("f", "unknown", (0,))], "uses a", "let a a.n", "let f (fun n n.n)")
        self.found([("n", "kind", "(fun *0 num)")], "uses a", "let n (fun a a.n)")

    def test_by_faces_in_any_order(self):
        module = module_of("uses a b c", "let x (call b.f (call a.f a.n))", "let y b.n")
        expected = [("x", "kind", ("num",)), ("y", "kind", ("rec", (), None))]
        for faces in itertools.permutations(FACES):
            self.assertEqual(states(module, list(faces)), expected)
            self.assertEqual(states(module, faces), expected)

    def test_against_plain(self):
        chance = random.Random(60)
        words = {"kind": 0, "clash": 0, "unknown": 0, "leans": 0}
        for _ in range(300):
            module = chance_module(chance)
            faces = [face_of(chance_module(chance, name)) for name in ("a", "b", "k") if chance.random() < 0.8]
            found = states(module, faces)
            self.assertEqual(found, plainmodules.states(module, faces), module_text(module))
            for _, word, _ in found:
                words[word] += 1
        for _ in range(300):
            whole = likely_whole(chance)
            for k, module in enumerate(whole):
                faces = [face_of(other) for other in whole[:k]]
                found = states(module, faces)
                self.assertEqual(found, plainmodules.states(module, faces), module_text(module))
                for _, word, _ in found:
                    words[word] += 1
        self.assertTrue(min(words.values()) > 30, words)


# rows of a module that has each fault, but for those that stand behind; and of one that has none
RIGHT = ("uses a b", "seal s num", "tell f (fun a.s num)", "tell g (fun m.s m.s)", "let f b.f", "let g (fun x (add x 1))", "let h 1")


class Faults(unittest.TestCase):
    def fault(self, expected, *rows, faces=FACES):
        module = module_of(*rows)
        self.assertTrue(is_module(module))
        self.assertEqual(fault_of(module, faces), expected, rows)
        self.assertEqual(plainmodules.fault_of(module, faces), expected, rows)
        self.assertEqual(fault_of(module, tuple(faces[::-1])), expected)

    def test_none(self):
        self.fault(None, *RIGHT)
        self.fault(None, "let x 1")
        self.fault(None, "let x ?", faces=[])
        self.fault(None, "tell x *0", "let x ?")
        self.fault(None, "tell x num", "let x ?")
        self.fault(None, "tell x (fun num num)", "let x (fun x x)")
        self.fault(None, "tell x (sum a num b (rec))", "let x (tag a 1)")
        self.fault(None, "seal t num", "let x 1")
        self.fault(None, "uses c", "tell x (fun c.s c.t)", "let x (fun y ?)")

    def test_use(self):
        self.fault(("use", "z"), "uses z", "let x 1")
        self.fault(("use", "d"), "uses a d z", "let x 1")
        self.fault(("use", "a"), *RIGHT, faces=FACES[1:])
        self.fault(("use", "a"), "uses a b", "let x 1", faces=[])

    def test_told(self):
        self.fault(("told", "x"), "tell x a.s", "let x ?")
        self.fault(("told", "x"), "uses b", "tell x a.s", "let x ?")
        self.fault(("told", "x"), "uses a", "tell w num", "tell x (fun num (rec a a.t))", "tell y a.u", "let w 1", "let x ?", "let y ?")
        self.fault(("told", "x"), "uses a", "tell x (fun a.s (sum b b.s))", "let x ?")
        self.fault(("told", "x"), "uses a", "tell x z.s", "let x ?")

    def test_def(self):
        self.fault(("def", "x"), "let x (add 1 (rec))")
        self.fault(("def", "y"), "let x 1", "let y z")
        self.fault(("def", "x"), "let w 1", "let x q", "let y x", "let z (call 1 1)")
        self.fault(("def", "x"), "uses a", "let x (add (call a.f 1) 1)")
        # also of one that isn't told
        self.fault(("def", "y"), "tell x num", "let x 1", "let y (call 1 1)")

    def test_none_defined(self):
        self.fault(("none", "x"), "tell x num", "let y 1")
        self.fault(("none", "y"), "tell x num", "tell y num", "tell z num", "let x 1")

    def test_closed(self):
        self.fault(("closed", "x"), "tell x *0", "let x 1")
        self.fault(("closed", "x"), "tell x (fun *0 *1)", "let x (fun x x)")
        self.fault(("closed", "x"), "tell x (rec)", "let x 1")
        self.fault(("closed", "x"), "tell x (rec a num)", "let x (rec a 1 b 2)")
        self.fault(("closed", "x"), "tell x (fun (rec *0) num)", "let x (fun y (get y a))")
        self.fault(("closed", "x"), "uses a", "tell x num", "let x (call a.f 1)")
        self.fault(("closed", "x"), "uses a", "tell x a.s", "let x 1")
        self.fault(("closed", "y"), "tell x num", "tell y (rec)", "tell z (rec)", "let x 1", "let y 1", "let z 2")

    def test_own_seals_opened_in_both(self):
        self.fault(None, "seal t num", "tell x m.t", "let x 1")
        self.fault(None, "seal t num", "tell x num", "let x 1")
        self.fault(None, "seal t (rec a num)", "tell x (fun m.t (rec a num))", "let x (fun y y)")
        self.fault(None, "seal s num", "seal t num", "tell x (fun m.s m.t)", "let x (fun y y)")
        self.fault(None, "seal s num", "tell x (fun m.s num)", "let x (fun y y)")
        self.fault(("closed", "x"), "seal s num", "seal t (rec)", "tell x (fun m.s m.t)", "let x (fun y y)")
        self.fault(("closed", "x"), "seal t (rec)", "tell x m.t", "let x 1")
        # in the definition's kind its own sealed kinds come by what others tell of them
        faces = [("k", (), (("f", kind_in("(fun m.t num)")), ("v", kind_in("m.t"))))]
        self.fault(None, "uses k", "seal t (rec)", "tell x (fun (rec) num)", "let x k.f", faces=faces)
        self.fault(None, "uses k", "seal t num", "tell x num", "tell y m.t", "let x k.v", "let y k.v", faces=faces)
        self.fault(("closed", "x"), "uses k", "seal t (rec)", "tell x num", "let x k.v", faces=faces)
        self.fault(("closed", "x"), "uses k", "seal s (rec)", "tell x (rec)", "let x k.v", faces=faces)
        # others' seals stay shut
        self.fault(("closed", "x"), "uses a", "seal s num", "tell x m.s", "let x (call a.f 1)")

    def test_the_first_due(self):
        rows = {"use": ("uses z",), "told": ("tell a z.t",), "def": ("let d (call 1 1)",), "none": ("tell n num",), "closed": ("tell x (rec)",)}
        lets = ("let a ?", "let x 1")
        due = {"use": ("use", "z"), "told": ("told", "a"), "def": ("def", "d"), "none": ("none", "n"), "closed": ("closed", "x")}
        for many in range(1, 6):
            for words in itertools.combinations(rows, many):
                heads = [row for word in words for row in rows[word]]
                made = sorted(heads + list(lets), key=lambda row: ("utl".index(row[0]) if row[:3] != "let" else 3, row))
                if "use" not in words:
                    made.insert(0, "uses c")
                first = words[0]
                self.fault(due[first], *made)
        # value by value both of each
        self.fault(("closed", "a"), "tell a (rec)", "tell b num", "let a 1")
        self.fault(("none", "a"), "tell a (rec)", "tell b (rec)", "let b 1")

    def test_against_plain(self):
        chance = random.Random(61)
        words = {None: 0, "use": 0, "told": 0, "def": 0, "none": 0, "closed": 0}
        for _ in range(900):
            whole = likely_whole(chance)
            for k, module in enumerate(whole):
                faces = [face_of(other) for other in whole[:k]]
                chance.shuffle(faces)
                found = fault_of(module, faces)
                self.assertEqual(found, plainmodules.fault_of(module, faces), module_text(module))
                words[found and found[0]] += 1
        for _ in range(200):
            module = chance_module(chance)
            faces = [face_of(chance_module(chance, name)) for name in ("a", "b", "k", "abcdefgh") if chance.random() < 0.8]
            found = fault_of(module, faces)
            self.assertEqual(found, plainmodules.fault_of(module, faces), module_text(module))
            words[found and found[0]] += 1
        self.assertTrue(min(words.values()) > 10, words)

    def test_what_no_fault_means(self):
        chance = random.Random(62)
        many = 0
        for _ in range(300):
            whole = likely_whole(chance)
            for k, module in enumerate(whole):
                faces = [face_of(other) for other in whole[:k]]
                if fault_of(module, faces) is None:
                    many += 1
                    kinds = {x: what for x, word, what in states(module, faces)}
                    opens = [(module[0], seal, kind) for seal, kind in module[2]]
                    for x, kind in module[3]:
                        self.assertTrue(comes_to(opened(kinds[x], opens), opened(kind, opens)))
        self.assertGreater(many, 100)


class Answers(unittest.TestCase):
    def test_nothing_is_changed_and_told_lists_are_ones_own(self):
        module = module_of(*RIGHT)
        faces = list(FACES)
        kept = copy.deepcopy((module, faces))
        first = states(module, faces)
        again = list(first)
        first.clear()
        self.assertEqual(states(module, faces), again)
        fault_of(module, faces)
        self.assertEqual((module, faces), kept)


if __name__ == "__main__":
    unittest.main()
