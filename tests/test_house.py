import copy
import random
import unittest

from sealedkinds import errors
from sealedkinds.apart import fault_of, states
from sealedkinds.errors import Faulty, InUse, NoEdition, NoModule, Ring
from sealedkinds.faces import face_comes
from sealedkinds.house import House
from sealedkinds.joined import faults, is_whole
from sealedkinds.modules import face_of
from sealedkinds.moduletext import module_in
from sealedkinds.running import ran, used
from sealedkinds.termtext import term_in
from tests.chancemodules import likely_module, likely_whole
from tests.plainhouse import PlainHouse, Refused
from tests.things import chance_thing

NUM = ("num",)
ALL = tuple(getattr(errors, name) for name in vars(errors) if name[0].isupper())


def refused(asked, *handed, **more):
    """What is told, or (class's name, what)."""
    try:
        return asked(*handed, **more)
    except ALL as refusal:
        return (type(refusal).__name__, refusal.what)
    except Refused as refusal:
        return refusal.args


def mod(text):
    """A module by its rows, parted by ` / `."""
    return module_in(("module " + text).replace(" / ", "\n"))


def house_of(*texts):
    house = House()
    for text in texts:
        house.put(mod(text))
    return house


A = "a / tell f (fun num num) / tell x num / let x 1 / let f (fun y (add y x))"
B = "b / uses a / tell z num / let z (call a.f a.x) / let own (fun y y)"


class Put(unittest.TestCase):
    def test_editions_and_looks(self):
        house = House()
        self.assertEqual(house.put(mod(A)), (0, [("a", "f"), ("a", "x")], [], []))
        self.assertEqual(house.put(mod(B)), (0, [("b", "own"), ("b", "z")], [], []))
        # the same again: nothing has to be looked at
        self.assertEqual(house.put(mod(A)), (1, [], [], []))
        # a term otherwise, of the same kind
        self.assertEqual(house.put(mod(A.replace("let x 1", "let x 2"))), (2, [("a", "x")], [], []))
        # a kind known otherwise: of those that name it
        self.assertEqual(house.put(mod(A.replace("let x 1", "let x (rec)"))), (3, [("a", "f"), ("a", "x")], [], []))
        # by faces alone: what is told of x is as it was
        self.assertEqual(house.fault("a"), ("def", "f"))
        self.assertIsNone(house.fault("b"))
        self.assertEqual(house.put(mod(A.replace("tell x num", "tell x (rec)").replace("let x 1", "let x (rec)"))), (4, [("b", "z")], [("b", ("def", "z"))], []))
        self.assertEqual(house.put(mod(A)), (5, [("a", "f"), ("a", "x"), ("b", "z")], [], ["b"]))
        told = house.put(mod(B))
        self.assertEqual([type(item) for item in told], [int, list, list, list])
        self.assertIsInstance(told, tuple)

    def test_neither_unknown_nor_leaning_ones(self):
        house = House()
        self.assertEqual(house.put(mod("a / let p (add q 1) / let r p / let s (call 1 1) / let t (rec a s) / let u 1")), (0, [("a", "s"), ("a", "u")], [], []))
        # p was never looked at; r, t lean
        self.assertEqual(house.put(mod("a / let q 2 / let p (add q 1) / let r p / let s (call 1 1) / let t (rec a s)")), (1, [("a", "p"), ("a", "q"), ("a", "r")], [], []))
        # unknown again, and back: as when last looked at
        self.assertEqual(house.put(mod("a / let p (add q 1) / let r p")), (2, [], [], []))
        self.assertEqual(house.put(mod("a / let q 7 / let p (add q 1) / let r p")), (3, [("a", "q")], [], []))
        self.assertEqual(house.put(mod("a / let q (rec) / let p (add q 1) / let r p")), (4, [("a", "p"), ("a", "q")], [], []))
        self.assertEqual(house.put(mod("a / let q 7 / let p (add q 1) / let r p")), (5, [("a", "p"), ("a", "q")], [], []))

    def test_own_name_aside(self):
        house = house_of("a / let f (fun n (call f n)) / let g f")
        self.assertEqual(house.put(mod("a / let f (fun n (call f n)) / let g (fun n (call f (call g n)))"))[1], [("a", "g")])
        self.assertEqual(house.put(mod("a / let f (fun n (call f n))"))[1], [])
        self.assertEqual(house.put(mod("a / let f (fun n 1) / let g (fun n (call f (call g n)))"))[1], [("a", "f"), ("a", "g")])
        # bound names are none
        self.assertEqual(house.put(mod("a / let n 1 / let f (fun n 1)"))[1], [("a", "n")])
        self.assertEqual(house.put(mod("a / let n (rec) / let f (fun n 1)"))[1], [("a", "n")])

    def test_across_drops_and_editions_without_them(self):
        house = house_of(A, B)
        house.drop("b")
        self.assertEqual(house.put(mod(B)), (1, [], [], []))
        house.drop("b")
        house.drop("a")
        self.assertEqual(len(house), 0)
        self.assertEqual(house.put(mod(A)), (1, [], [], []))
        self.assertEqual(house.put(mod(A.replace(" / let x 1", " / let x 5"))), (2, [("a", "x")], [], []))
        self.assertEqual(house.put(mod(B)), (2, [], [], []))
        self.assertEqual(house.put(mod("b / let z 1")), (3, [("b", "z")], [], []))
        # own was last looked at as it is now, z otherwise
        self.assertEqual(house.put(mod(B)), (4, [("b", "z")], [], []))
        # of another name it's another one
        self.assertEqual(house.put(mod(B.replace("b /", "c /"))), (0, [("c", "own"), ("c", "z")], [], []))

    def test_across_undo(self):
        house = house_of(A)
        house.put(mod(A.replace("let x 1", "let x 2")))
        self.assertIs(house.undo(), True)
        # x is as when last looked at, once that look is gone
        self.assertEqual(house.put(mod(A)), (1, [], [], []))
        self.assertEqual(house.put(mod(A.replace("let x 1", "let x 2"))), (2, [("a", "x")], [], []))
        self.assertIs(house.undo(), True)
        self.assertIs(house.undo(), True)
        self.assertIs(house.undo(), True)
        self.assertIs(house.undo(), False)
        self.assertEqual(house.put(mod(A)), (0, [("a", "f"), ("a", "x")], [], []))

    def test_broken_and_mended(self):
        house = house_of("m / seal t num / tell new m.t / let new 0", "p / uses m / tell x m.t / let x m.new", "q / uses m / let y m.new", "r / uses p / let y p.x", "s / uses m / let z (add m.new 1)")
        self.assertEqual(faults(house.whole()), [("s", ("def", "z"))])
        told = house.put(mod("m / let new 0"))
        self.assertEqual(told, (1, [], [("p", ("told", "x")), ("q", ("def", "y"))], []))
        # with a fault ahead and behind, another one: neither broken nor mended
        self.assertEqual(house.fault("s"), ("def", "z"))
        self.assertEqual(house.put(mod("m / tell new num / let new 0")), (2, [("p", "x"), ("q", "y"), ("s", "z")], [], ["q", "s"]))
        self.assertEqual(house.fault("p"), ("told", "x"))
        # its own faults are in neither
        self.assertEqual(house.put(mod("m / seal t num / tell new m.t / let old 0")), (3, [("m", "old"), ("p", "x"), ("q", "y"), ("s", "z")], [("s", ("def", "z"))], ["p"]))
        self.assertEqual(house.fault("m"), ("none", "new"))
        self.assertEqual(house.put(mod("m / seal t num / tell new m.t / let new 0")), (4, [], [], []))

    def test_refused_in_order(self):
        house = house_of("a / let x 1", "b / uses a / let x 1", "c / uses b / let x 1", "d / let x 1")
        before = (house.names(), house.whole(), house.past[:])
        for text, told in (("a / uses b / let x 1", ("Ring", "b")), ("a / uses c d / let x 1", ("Ring", "c")), ("a / uses d c / let x 1".replace("d c", "c d"), ("Ring", "c")),
                           ("a / uses b c / let x 1", ("Ring", "b")), ("a / uses b z / let x 1", ("NoModule", "z")), ("a / uses d e f / let x 1", ("NoModule", "e")),
                           ("b / uses c / let x 1", ("Ring", "c")), ("e / uses e / let x 1".replace("uses e", "uses g"), ("NoModule", "g")), ("d / uses a c / let x 1", None)):
            for asked in (house.would, house.put):
                found = refused(asked, mod(text))
                if told is not None:
                    self.assertEqual(found, told, text)
                    self.assertEqual((house.names(), house.whole(), house.past), before)
        self.assertEqual(house.module("d")[1], ("a", "c"))
        # the other edition's uses don't count
        self.assertEqual(house.put(mod("c / let x 1"))[0], 1)
        self.assertEqual(house.put(mod("a / uses c / let x 1"))[0], 1)

    def test_rings_of_many_steps(self):
        names = "abcdef"
        house = house_of("a / let x 1", *[f"{name} / uses {before} / let x 1" for before, name in zip(names, names[1:])])
        for name in names[1:]:
            self.assertEqual(refused(house.put, mod(f"a / uses {name} / let x 1")), ("Ring", name))
        house = house_of("a / let x 1", "b / let x 1", "c / uses a b / let x 1", "d / uses b / let x 1", "e / uses b c d / let x 1")
        self.assertEqual(refused(house.put, mod("a / uses b d e / let x 1")), ("Ring", "e"))
        self.assertEqual(refused(house.put, mod("d / uses b c e / let x 1")), ("Ring", "e"))
        self.assertEqual(house.put(mod("d / uses a b c / let x 1"))[0], 1)

    def test_would(self):
        house = house_of(A, B)
        text = A.replace("tell x num", "tell x (rec)").replace("let x 1", "let x (rec)")
        for _ in range(2):
            self.assertEqual(house.would(mod(text)), (1, [("a", "f"), ("a", "x"), ("b", "z")], [("b", ("def", "z"))], []))
            self.assertEqual(house, house_of(A, B))
        would = house.would(mod(text))
        would[1].clear()
        would[2].append(None)
        self.assertEqual(house.put(mod(text)), (1, [("a", "f"), ("a", "x"), ("b", "z")], [("b", ("def", "z"))], []))
        self.assertEqual(house.would(mod("new / let x 1")), (0, [("new", "x")], [], []))
        self.assertEqual(house.names(), ["a", "b"])


class DropAndUndo(unittest.TestCase):
    def test_drop(self):
        house = house_of("a / let x 1", "d / uses a / let x 1", "c / uses a / let x 1", "b / let x 1")
        self.assertEqual(refused(house.drop, "a"), ("InUse", "c"))
        for name in ("q", "", "A b", "aa"):
            self.assertEqual(refused(house.drop, name), ("NoModule", name))
        self.assertIsNone(house.drop("c"))
        self.assertEqual(refused(house.drop, "a"), ("InUse", "d"))
        self.assertEqual(refused(house.drop, "c"), ("NoModule", "c"))
        house.drop("d")
        house.drop("a")
        self.assertEqual(house.names(), ["b"])
        self.assertEqual(refused(house.editions, "a"), ("NoModule", "a"))
        self.assertEqual(refused(house.as_of, "a", 0), ("NoModule", "a"))
        self.assertEqual(house.put(mod("a / let x 2"))[0], 1)
        self.assertEqual(house.as_of("a", 0), mod("a / let x 1"))

    def test_undo_of_each_deed(self):
        house = House()
        kept = []
        for k in range(20):
            for deed in (lambda: house.put(mod(f"a / let x {k}")), lambda: house.put(mod(f"b / uses a / let x {k % 3}")), lambda: house.drop("b")):
                kept.append((house.like(), house.names(), house.whole()))
                deed()
        self.assertEqual(len(kept), 60)
        for like, names, whole in kept[::-1]:
            self.assertIs(house.undo(), True)
            self.assertEqual(house, like)
            self.assertEqual((house.names(), house.whole()), (names, whole))
            if "a" in names:
                self.assertEqual(house.editions("a"), like.editions("a"))
            self.assertEqual(house.would(mod("b / let x 1")), like.would(mod("b / let x 1")))
        self.assertIs(house.undo(), False)
        self.assertEqual(house, House())

    def test_refused_deeds_are_none(self):
        house = house_of("a / let x 1", "b / uses a / let x 1")
        for asked in (lambda: house.drop("a"), lambda: house.drop("z"), lambda: house.put(mod("a / uses b / let x 1")), lambda: house.put(mod("c / uses z / let x 1"))):
            self.assertIsInstance(refused(asked), tuple)
        house.undo()
        self.assertEqual(house.names(), ["a"])
        self.assertIs(house.undo(), True)
        self.assertIs(house.undo(), False)


class Questions(unittest.TestCase):
    def test_each(self):
        house = house_of(A, B, "c / let x (add 1 (rec)) / let y x / let z w")
        self.assertEqual(house.names(), ["a", "b", "c"])
        self.assertEqual(house.module("b"), mod(B))
        self.assertEqual(house.states("b"), [("z", "kind", NUM), ("own", "kind", ("fun", ("any", 0), ("any", 0)))])
        self.assertEqual(house.states("c"), [("x", "clash", ()), ("y", "leans", "x"), ("z", "unknown", ())])
        self.assertEqual((house.fault("a"), house.fault("c")), (None, ("def", "x")))
        self.assertEqual((house.editions("a"), house.as_of("a", 0)), (1, mod(A)))
        self.assertEqual((house.users_of("a"), house.users_of("b")), (["b"], []))
        self.assertEqual(len(house), 3)
        for told in (house.names(), house.states("b"), house.users_of("a"), house.whole()):
            self.assertIsInstance(told, list)
        empty = House()
        self.assertEqual((empty.names(), empty.whole(), len(empty)), ([], [], 0))

    def test_no_module(self):
        for house in (House(), house_of(A, B)):
            for name in ("q", "", "A b", "aa", "ab.x", "*0"):
                for asked in (house.module, house.states, house.fault, house.editions, house.users_of, house.drop, lambda name: house.as_of(name, 0),
                              lambda name: house.as_of(name, -1), lambda name: house.ran(name, "x"), lambda name: house.ran(name, "q", most=0)):
                    self.assertEqual(refused(asked, name), ("NoModule", name))

    def test_as_of(self):
        house = House()
        for k in range(4):
            house.put(mod(f"a / let x {k}"))
        for k in range(4):
            self.assertEqual(house.as_of("a", k), mod(f"a / let x {k}"))
        for k in (-1, -2, -4, -5, 4, 5, 10 ** 30, -10 ** 30):
            self.assertEqual(refused(house.as_of, "a", k), ("NoEdition", k))
        house.undo()
        self.assertEqual(refused(house.as_of, "a", 3), ("NoEdition", 3))

    def test_whole_least_names_first(self):
        house = House()
        for text in ("m", "z / uses m", "b / uses m z", "a / uses b", "c", "y / uses a c"):
            house.put(mod(text + " / let x 1"))
        self.assertEqual([module[0] for module in house.whole()], ["c", "m", "z", "b", "a", "y"])
        self.assertIs(is_whole(house.whole()), True)
        house = house_of("b / let x 1", "a / uses b / let x 1", "d / let x 1", "c / uses d / let x 1")
        self.assertEqual([module[0] for module in house.whole()], ["b", "a", "d", "c"])

    def test_ran_and_used(self):
        house = house_of(A, B)
        self.assertEqual(house.ran("b", "z"), (("num", 2), 9))
        self.assertEqual(house.ran("b", "z"), ran(house.whole(), "b", "z"))
        self.assertEqual(house.used(term_in("(add b.z 1)")), used(house.whole(), term_in("(add b.z 1)")))
        self.assertEqual(house.ran("b", "z", most=9), (("num", 2), 9))
        self.assertEqual(refused(house.ran, "b", "z", most=8), ("TooLong", 8))
        self.assertEqual(refused(house.used, term_in("b.z"), most=9), ("TooLong", 9))
        self.assertEqual(house.used(term_in("b.z"), most=10), (2, 10))
        self.assertEqual(refused(house.ran, "b", "q"), ("NoValue", "q"))
        self.assertEqual(refused(house.used, term_in("b.own")), ("Unknown", ()))
        self.assertEqual(refused(house.used, term_in("a.f")), ("NotNum", ("fun", NUM, NUM)))
        loop = house_of("a / let w (fun n (call w n)) / let x (call w 1)")
        self.assertEqual(refused(loop.ran, "a", "x"), ("TooLong", 2000))

    def test_faulty_ahead_of_all_else(self):
        house = house_of("d / let x (add 1 (rec))", "b / let y q", "c / uses d / let x d.y", "e / let x 1")
        fault = ("Faulty", ("b", ("def", "y")))
        for asked in (lambda: house.ran("q", "x"), lambda: house.ran("e", "q"), lambda: house.ran("e", "x", most=0), lambda: house.used(term_in("q")), lambda: house.used(term_in("?"))):
            self.assertEqual(refused(asked), fault)
        house.drop("b")
        self.assertEqual(refused(house.ran, "e", "x"), ("Faulty", ("d", ("def", "x"))))
        house.put(mod("d / let x 1"))
        self.assertEqual(refused(house.ran, "e", "x"), ("Faulty", ("c", ("def", "x"))))
        house.drop("c")
        self.assertEqual(house.ran("e", "x"), (("num", 1), 1))


class EqualAndLike(unittest.TestCase):
    def test_equal(self):
        one, other = house_of(A, B), house_of(A)
        self.assertFalse(one == other)
        self.assertTrue(one != other)
        other.put(mod("b / let x 1"))
        self.assertIs(one == other, False)
        other.put(mod(B))
        self.assertIs(one == other, True)
        self.assertIs(one != other, False)
        third = house_of("z / let x 1", B.replace("uses a / ", "").replace("(call a.f a.x)", "1"), A)
        third.put(mod(B))
        third.drop("z")
        self.assertIs(one == third, True)
        self.assertIs(House() == House(), True)
        self.assertIs(one == House(), False)

    def test_with_things_of_any_make(self):
        house = house_of(A)
        chance = random.Random(101)
        for thing in [chance_thing(chance, 5) for _ in range(200)] + [None, [], {}, "", 0, 1, True, object(), House, house.whole(), house.names(), house.now, mod(A)]:
            self.assertIs(house == thing, False)
            self.assertIs(thing == house, False)
            self.assertIs(House() == thing, False)

    def test_like(self):
        house = house_of(A, B)
        house.put(mod(A.replace("let x 1", "let x 3")))
        like = house.like()
        self.assertIsInstance(like, House)
        self.assertIsNot(like, house)
        self.assertEqual(like, house)
        self.assertEqual((like.editions("a"), like.as_of("a", 0)), (2, mod(A)))
        like.drop("b")
        self.assertEqual((like.names(), house.names()), (["a"], ["a", "b"]))
        house.put(mod("c / let x 1"))
        self.assertEqual((like.names(), house.names()), (["a"], ["a", "b", "c"]))
        for _ in range(4):
            self.assertIs(like.undo(), True)
        self.assertIs(like.undo(), False)
        self.assertEqual(len(house), 3)
        for _ in range(4):
            self.assertIs(house.undo(), True)
        self.assertIs(house.undo(), False)
        # looks go along
        house = house_of(A)
        self.assertEqual(house.like().put(mod(A)), (1, [], [], []))


class Answers(unittest.TestCase):
    def test_what_is_told_is_ones_own(self):
        house = house_of(A, B)
        told = house.put(mod(A.replace("let x 1", "let x 2")))
        for row in (told[1], told[2], told[3], house.names(), house.states("a"), house.users_of("a"), house.whole()):
            row.append(None)
            row.reverse()
        self.assertEqual(house.names(), ["a", "b"])
        self.assertEqual(len(house.states("a")), 2)
        self.assertEqual(house.users_of("a"), ["b"])
        self.assertEqual(house.whole(), [mod(A.replace("let x 1", "let x 2")), mod(B)])
        self.assertEqual(house.put(mod(A)), (2, [("a", "x")], [], []))

    def test_most_by_its_name_alone(self):
        house = house_of(A)
        with self.assertRaises(TypeError):
            house.ran("a", "x", 5)
        with self.assertRaises(TypeError):
            house.used(term_in("a.x"), 5)

    def test_classes_of_refusals(self):
        self.assertEqual([refusal.__bases__[0] for refusal in (Faulty, InUse, NoEdition, NoModule, Ring)], [ValueError, RuntimeError, LookupError, LookupError, RuntimeError])


class ByChance(unittest.TestCase):
    def module(self, chance, house):
        """A module for the house, new or an edition, mostly such as it could have."""
        whole = house.whole()
        name = chance.choice("abcd")
        if chance.random() < 0.3 and name in house.names():
            shelf = [house.as_of(name, k) for k in range(house.editions(name))]
            return chance.choice(shelf)
        if chance.random() < 0.5 and name in house.names():
            # told otherwise
            module = house.module(name)
            values = tuple((x, chance.choice((kind, kind, NUM, ("any", 0)))) for x, kind in module[3] if chance.random() < 0.8)
            return module[:3] + (values,) + module[4:]
        known = [module for module in whole if module[0] < name] if chance.random() < 0.9 else [module for module in whole if module[0] != name]
        return likely_module(chance, name, known)

    def test_against_plain(self):
        chance = random.Random(102)
        counts = {}
        for _ in range(150):
            house, plain = House(), PlainHouse()
            for module in likely_whole(chance):
                self.assertEqual(refused(house.put, module), refused(plain.put, module))
            for _ in range(chance.randint(3, 22)):
                word = chance.choice(("put", "put", "put", "put", "would", "drop", "undo"))
                if word in ("put", "would"):
                    handed = [self.module(chance, house)]
                    kept = copy.deepcopy(handed)
                else:
                    handed = [chance.choice("abcd")] if word == "drop" else []
                    kept = list(handed)
                found = refused(getattr(house, word), *handed)
                self.assertEqual(found, refused(getattr(plain, word), *handed))
                self.assertEqual(handed, kept)
                key = found[0] if isinstance(found, tuple) and isinstance(found[0], str) else word
                counts[key] = counts.get(key, 0) + 1
                if word == "put" and key == "put":
                    counts["broken"] = counts.get("broken", 0) + len(found[2])
                    counts["mended"] = counts.get("mended", 0) + len(found[3])
                self.asked_all(house, plain)
        for word in ("put", "would", "drop", "undo", "InUse", "NoModule", "Ring", "broken", "mended"):
            self.assertGreater(counts.get(word, 0), 5, counts)

    def asked_all(self, house, plain):
        self.assertEqual(house.names(), plain.names())
        self.assertEqual(house.whole(), plain.whole())
        self.assertEqual(len(house), len(plain.names()))
        for name in "abcde":
            for word in ("module", "states", "fault", "editions", "users_of"):
                self.assertEqual(refused(getattr(house, word), name), refused(getattr(plain, word), name))
            self.assertEqual(refused(house.as_of, name, 1), refused(plain.as_of, name, 1))
            self.assertEqual(refused(house.ran, name, "f"), refused(plain.ran, name, "f"))
        self.assertEqual(refused(house.used, ("num", 1)), refused(plain.used, ("num", 1)))

    def test_beside_one_that_is_made_afresh(self):
        chance = random.Random(103)
        many = 0
        for _ in range(80):
            house = House()
            for _ in range(12):
                refused(house.put, self.module(chance, house))
                refused(house.drop, chance.choice("abcdefghi"))
            fresh = House()
            for module in house.whole():
                fresh.put(module)
                many += 1
            self.assertEqual(fresh, house)
            for name in house.names():
                self.assertEqual((fresh.states(name), fresh.fault(name)), (house.states(name), house.fault(name)))
                faces = [face_of(house.module(use)) for use in house.module(name)[1]]
                self.assertEqual(house.states(name), states(house.module(name), faces))
                self.assertEqual(house.fault(name), fault_of(house.module(name), faces))
            self.assertEqual(faults(house.whole()), [(m[0], house.fault(m[0])) for m in house.whole() if house.fault(m[0]) is not None])
        self.assertGreater(many, 100)

    def test_a_face_that_comes_to_the_old_one_breaks_none(self):
        chance = random.Random(104)
        counts = {True: 0, False: 0}
        for _ in range(150):
            house = House()
            for _ in range(12):
                module = self.module(chance, house)
                old = house.module(module[0]) if module[0] in house.names() else None
                told = refused(house.put, module)
                if old is not None and not isinstance(told[0], str):
                    comes = face_comes(face_of(module), face_of(old))
                    counts[comes] += bool(house.users_of(module[0]))
                    if comes:
                        self.assertEqual(told[2], [])
        self.assertTrue(min(counts.values()) > 10, counts)


if __name__ == "__main__":
    unittest.main()
