import copy
import random
import unittest

from sealedkinds.kindtext import kind_in
from sealedkinds.modules import face_of, is_face, is_module
from sealedkinds.termtext import term_in
from tests import plainmodules
from tests.chancemodules import chance_module
from tests.things import chance_thing, deep_things, spoiled

NUM = ("num",)
ONE = ("num", 1)
HOLE = ("hole",)


def values(**kinds):
    return tuple((x, kind_in(text)) for x, text in sorted(kinds.items()))


MODULES = (
    ("m", (), (), (), (("x", ONE),)),
    ("abcdefgh", ("a", "b"), (("s", NUM), ("t", kind_in("(rec a num)"))), values(f="(fun abcdefgh.s a.t)", g="(fun *0 *0)"),
     (("g", term_in("(fun x x)")), ("f", HOLE))),
    ("m", ("k",), (("m", kind_in("(sum a num b (fun num num))")),), values(m="(rec a m.m b k.m *0)", x="(fun *0 (rec a *1 *2))"),
     (("x", HOLE), ("m", HOLE), ("k", HOLE))),
    ("fun", ("let", "module", "uses"), (), (), (("tell", term_in("(call tell let.x)")),)),
)
FACES = (
    ("m", (), ()), ("m", ("s",), ()), ("m", (), values(x="num")), ("m", ("s", "t"), values(a="m.s", b="k.z", c="(fun m.t m.s)")),
    ("abcdefgh", ("abcdefgh",), values(abcdefgh="(rec abcdefgh abcdefgh.abcdefgh *0)")),
)


class IsModule(unittest.TestCase):
    def test_right_ones(self):
        for module in MODULES:
            self.assertIs(is_module(module), True, module)
            self.assertTrue(plainmodules.is_module(module))
        chance = random.Random(50)
        for _ in range(200):
            self.assertIs(is_module(chance_module(chance)), True)

    def wrong(self, *module):
        self.assertIs(is_module(module), False, module)
        self.assertFalse(plainmodules.is_module(module))

    def test_name(self):
        for name in ("", "M", "abcdefghi", "m1", "m ", "m.t", 0, None, True, ("m",), ["m"], "\u00e4", "m\n"):
            self.wrong(name, (), (), (), (("x", ONE),))

    def test_parts_out_and_more(self):
        for module in MODULES:
            for k in range(5):
                self.wrong(*module[:k], *module[k + 1:])
                self.wrong(*module[:k], module[k], *module[k:])
                self.wrong(*module[:k], list(module[k]), *module[k + 1:])
                for other in (None, True, False, 0, 1, "", "M", [], [()], (NUM,), (0,)):
                    self.wrong(*module[:k], other, *module[k + 1:])
            self.assertIs(is_module(list(module)), False)
            self.assertIs(is_module([module]), False)
            self.assertIs(is_module((module,)), False)

    def test_uses(self):
        for uses in (("b", "a"), ("a", "a"), ("a", "c", "b"), ("m",), ("a", "m"), ("a", "m", "z"), ("abcdefghi",), ("",), ("A",), (0,), (None,),
                     (("a",),), ("a", 0), ["a"], "a", ("a", ["b"])):
            self.wrong("m", uses, (), (), (("x", ONE),))
        self.assertIs(is_module(("m", ("a", "l", "n", "z"), (), (), (("x", ONE),))), True)

    def test_seals(self):
        for seals in ((("t", NUM), ("s", NUM)), (("s", NUM), ("s", NUM)), (("abcdefghi", NUM),), (("", NUM),), ((0, NUM),), (("s",),), (("s", NUM, NUM),),
                      (["s", NUM],), [("s", NUM)], (("s", ["num"]),), (("s", None),), (("s", "num"),), ("s",), (("s", ("any", 0)),),
                      (("s", kind_in("(rec a num *0)")),), (("s", kind_in("(sum a num *0)")),), (("s", kind_in("(rec a (fun *0 num))")),),
                      (("s", kind_in("m.s")),), (("s", kind_in("m.t")),), (("s", kind_in("k.t")),), (("s", kind_in("(fun num k.t)")),), (("s", ONE),),
                      (NUM,), ((),)):
            self.wrong("m", (), seals, (), (("x", ONE),))

    def test_values(self):
        seals = (("s", NUM),)
        for told in ((("y", NUM), ("x", NUM)), (("x", NUM), ("x", NUM)), (("abcdefghi", NUM),), (("", NUM),), ((0, NUM),), (("x",),), (("x", NUM, NUM),),
                     (["x", NUM],), [("x", NUM)], (("x", ["num"]),), (("x", None),), (("x", "num"),), ("x",), (("x", ("any", 1)),),
                     (("x", kind_in("(fun *1 *0)")),), (("x", kind_in("(rec a *1 *0)")),), (("x", kind_in("(fun (rec *1) *0)")),),
                     (("x", ("any", True)),), (("x", ("any", False)),), (("x", kind_in("m.t")),), (("x", kind_in("(fun m.s (rec a m.t))")),),
                     (("x", kind_in("m.m")),), (("w", NUM), ("x", kind_in("m.t"))), (("x", ONE),), ((),)):
            self.wrong("m", (), seals, told, (("x", ONE),))
        for kind in ("m.s", "k.s", "k.t", "(fun k.t m.s)", "(rec a *0 b *1 *2)", "(fun (rec *0) (sum a *1 *2))", "*0"):
            self.assertIs(is_module(("m", (), seals, (("x", kind_in(kind)),), (("y", ONE),))), True)

    def test_defs(self):
        for defs in ((), [("x", ONE)], (("x", ONE), ("x", ONE)), (("x", ONE), ("y", ONE), ("x", HOLE)), (("x",),), (("x", ONE, ONE),), (["x", ONE],),
                     (("abcdefghi", ONE),), (("", ONE),), ((0, ONE),), ((("x",), ONE),), ((["x"], ONE),), (("x", None),), (("x", 1),), (("x", "x"),),
                     (("x", ["num", 1]),), (("x", ("num", -1)),), (("x", ("num", 99991)),), (("x", ("num", True)),), (("x", NUM),), (("x", ("fun", "x")),),
                     (("x", ONE), ("y", ("call", ONE))), (("x", ONE), HOLE), ("x",), (ONE,)):
            self.wrong("m", (), (), (), defs)
        self.assertIs(is_module(("m", (), (), (), (("z", HOLE), ("a", HOLE), ("m", HOLE)))), True)

    def test_beyond_the_bounds(self):
        names = sorted("abcdefghijklmnopqrst")
        self.assertIs(is_module(("zz", tuple(names), tuple((x, NUM) for x in names), tuple((x, NUM) for x in names),
                                 tuple((x, HOLE) for x in names))), True)

    def test_one_thing_otherwise(self):
        for module in MODULES:
            for thing in spoiled(module):
                self.assertIs(is_module(thing), plainmodules.is_module(thing), thing)

    def test_things_of_any_make(self):
        chance = random.Random(51)
        for thing in [chance_thing(chance, 6) for _ in range(2000)] + deep_things(50):
            for made in (thing, (thing,), ("m", thing, (), (), (("x", ONE),)), ("m", (), thing, (), (("x", ONE),)),
                         ("m", (), (), thing, (("x", ONE),)), ("m", (), (), (), thing), ("m", (), (), (), (thing,))):
                self.assertIs(is_module(made), plainmodules.is_module(made), made)
        for thing in [chance_thing(chance, 4) for _ in range(1000)] + deep_things(46):
            made = ("m", (), (("s", thing),), (("x", thing),), (("x", thing),))
            self.assertIs(is_module(made), False)


class IsFace(unittest.TestCase):
    def test_right_ones(self):
        for face in FACES:
            self.assertIs(is_face(face), True, face)
        for module in MODULES:
            self.assertIs(is_face(face_of(module)), True)

    def wrong(self, *face):
        self.assertIs(is_face(face), False, face)
        self.assertFalse(plainmodules.is_face(face))

    def test_each_part(self):
        for face in FACES:
            for k in range(3):
                self.wrong(*face[:k], *face[k + 1:])
                self.wrong(*face[:k], face[k], *face[k:])
                self.wrong(*face[:k], list(face[k]), *face[k + 1:])
                for other in (None, True, 0, "", "M", "abcdefghi", [], (NUM,)):
                    self.wrong(*face[:k], other, *face[k + 1:])
            self.assertIs(is_face(list(face)), False)
        for owns in (("t", "s"), ("s", "s"), ("S",), ("abcdefghi",), ("",), (0,), (None,), ["s"], "s", (("s", NUM),)):
            self.wrong("m", owns, ())
        for told in (values(x="m.s"), values(x="(fun m.s m.m)"), (("x", ("any", 1)),), (("y", NUM), ("x", NUM)), (("x", NUM), ("x", NUM)), (("x",),),
                     (["x", NUM],), [("x", NUM)], (("x", None),), (("x", ONE),), ((0, NUM),)):
            self.wrong("m", ("m", "t"), told)
        for module in MODULES:
            self.assertIs(is_face(module), False)
        for face in FACES:
            self.assertIs(is_module(face), False)

    def test_one_thing_otherwise_and_things_of_any_make(self):
        for face in FACES:
            for thing in spoiled(face):
                self.assertIs(is_face(thing), plainmodules.is_face(thing), thing)
        chance = random.Random(52)
        for thing in [chance_thing(chance, 6) for _ in range(2000)] + deep_things(50):
            for made in (thing, ("m", thing, ()), ("m", (), thing), ("m", ("s",), (("x", thing),)), (thing, (), ())):
                self.assertIs(is_face(made), plainmodules.is_face(made), made)


class FaceOf(unittest.TestCase):
    def test_each_part(self):
        self.assertEqual(face_of(MODULES[0]), ("m", (), ()))
        self.assertEqual(face_of(MODULES[1]), ("abcdefgh", ("s", "t"), values(f="(fun abcdefgh.s a.t)", g="(fun *0 *0)")))
        self.assertEqual(face_of(MODULES[2]), ("m", ("m",), MODULES[2][3]))

    def test_chance_modules(self):
        chance = random.Random(53)
        for _ in range(200):
            module = chance_module(chance)
            kept = copy.deepcopy(module)
            self.assertEqual(face_of(module), plainmodules.face_of(module))
            self.assertIs(is_face(face_of(module)), True)
            self.assertEqual(module, kept)


if __name__ == "__main__":
    unittest.main()
