import copy
import random
import unittest

from sealedkinds.errors import Bare, Met, NoSeal, NoWear, TooLong
from sealedkinds.joined import faults
from sealedkinds.kinds import deep_of, opened, size_of
from sealedkinds.kindtext import kind_in
from sealedkinds.modules import face_of, is_module
from sealedkinds.moduletext import module_in
from sealedkinds.running import used
from sealedkinds.termtext import term_in
from sealedkinds.users import parting, users
from sealedkinds.wearing import worn
from tests import plainmodules
from tests.chancemodules import likely_whole
from tests.test_joined import whole_of


def refused(*handed):
    try:
        return worn(*handed)
    except (NoSeal, NoWear) as refusal:
        return (type(refusal).__name__, refusal.what)


def number(whole, user, most):
    """The number that the user tells, and its steps; None where it's refused."""
    try:
        return used(whole, user, most=most)
    except (TooLong, Bare):
        return None


def hinders(module, seal):
    """The first value in whose kind the seal stands in a sum with a rest; None."""
    def within(kind, open_sum):
        if kind == ("own", module[0], seal):
            return open_sum
        here = open_sum or (kind[0] == "sum" and kind[2] is not None)
        parts = kind[1:] if kind[0] == "fun" else [part for _, part in kind[1]] if kind[0] in ("rec", "sum") else []
        return any(within(part, here) for part in parts)
    return next((x for x, kind in module[3] if within(kind, False)), None)


EVERYWHERE = whole_of("""
    module k
    seal t num
    tell in (fun num k.t)
    tell out (fun k.t num)
    let in (fun x x)
    let out (fun x (add x 1))

    module m
    uses k
    seal s (rec)
    seal t num
    tell both (fun m.t (fun m.t m.t))
    tell deep (rec a (rec b m.t c num) d (fun num (rec e m.t)))
    tell far (fun k.t m.t)
    tell get (fun m.t num)
    tell new m.t
    tell num (fun num (fun num num))
    tell open (fun (rec a m.t *0) (rec a m.t *0))
    tell pair (fun *0 (fun *1 (rec a *0 b m.t c *1)))
    tell sum (fun (sum a m.t b (rec)) (sum a num b m.t))
    tell twice (fun (fun m.t m.t) (fun m.t m.t))
    tell unit m.s
    let new 4
    let hidden (add new 1)
    let both (fun x (fun y (add x (times 2 y))))
    let get (fun x x)
    let far (fun x (add (call k.out x) hidden))
    let twice (fun f (fun x (call f (call f x))))
    let deep (rec a (rec b hidden c 3) d (fun n (rec e (add n new))))
    let num (fun both (fun get (add both (call both get))))
    let open (fun r (put r a (add (get r a) 1)))
    let pair (fun x (fun y (rec a x b new c y)))
    let sum (fun x (case x a y (tag b (add y 1)) b z (tag a (call get 7))))
    let unit (rec)
""".replace("let num (fun both (fun get (add both (call both get))))", "let num (fun both (fun get (add both get)))"))


class Worn(unittest.TestCase):
    def looked_over(self, ahead, one, other, size, rows=()):
        """Looks whether they are alike to all users of that size, and to these, each way within 100 times the steps."""
        self.assertEqual(face_of(one), face_of(other))
        many = 0
        for user in users(face_of(one), size=size) + [term_in(row) for row in rows]:
            for left, right in ((one, other), (other, one)):
                told = number(ahead + [left], user, 20000)
                if told is not None:
                    many += 1
                    self.assertEqual(number(ahead + [right], user, 100 * told[1])[0], told[0])
        self.assertIsNone(parting(ahead, one, other, size=size, most=20000))
        return many

    def test_what_is_told(self):
        module = EVERYWHERE[1]
        for label in ("l", "a", "abcdefgh"):
            found = worn(module, "t", label)
            self.assertIs(is_module(found), True)
            self.assertEqual((found[0], found[1], found[3]), (module[0], module[1], module[3]))
            self.assertEqual(found[2], (("s", kind_in("(rec)")), ("t", kind_in(f"(rec {label} num)"))))
            self.assertEqual(faults(EVERYWHERE[:1] + [found]), [])

    def test_at_any_place(self):
        module = EVERYWHERE[1]
        rows = (
            "(call m.get (call (call m.both m.new) m.new))", "(call m.get (get (get m.deep a) b))", "(get (get m.deep a) c)", "(call m.get (get (call (get m.deep d) 5) e))",
            "(call m.get (call m.far (call k.in 5)))", "(call m.get (get (call m.open (rec a m.new b 1)) a))", "(get (call m.open (rec a m.new b 7)) b)",
            "(call m.get (get (call (call m.pair 1) (rec)) b))", "(get (call (call m.pair 1) (rec)) a)", "(case (call m.sum (tag a m.new)) a x (add x 1) b x (call m.get x))",
            "(case (call m.sum (tag b (rec))) a x (add x 1) b x (call m.get x))", "(call m.get (call (call m.twice (call m.both m.new)) m.new))",
            "(call m.get (call (call m.twice (call m.twice (fun x (call (call m.both x) x)))) m.new))", "(call m.get (call (call m.twice (fun x m.new)) m.new))",
            "(call (call m.num 1) 2)",
        )
        for label in ("l", "a"):
            found = module
            for _ in range(3):
                found = worn(found, "t", label)
                self.assertEqual(faults(EVERYWHERE[:1] + [found]), [])
                self.assertGreater(self.looked_over(EVERYWHERE[:1], module, found, 3, rows), 2 * len(rows))
                # a module that uses it
                self.assertEqual([used(EVERYWHERE[:1] + [found], term_in(row), most=9000)[0] for row in rows],
                                 [used(EVERYWHERE, term_in(row))[0] for row in rows])

    def test_one_seal_behind_the_other(self):
        module = EVERYWHERE[1]
        for first, then in (("s", "t"), ("t", "s")):
            found = worn(worn(worn(module, first, "a"), then, "b"), first, "c")
            inside = {"s": "(rec a (rec))", "t": "(rec b num)"} if first == "s" else {"s": "(rec b (rec))", "t": "(rec a num)"}
            inside[first] = f"(rec c {inside[first]})"
            self.assertEqual(found[2], (("s", kind_in(inside["s"])), ("t", kind_in(inside["t"]))))
            self.assertEqual(faults(EVERYWHERE[:1] + [found]), [])
            self.looked_over(EVERYWHERE[:1], module, found, 3)

    def test_a_seal_in_which_nothing_stands(self):
        module = module_in("module m\nseal s num\nseal t num\ntell x m.t\nlet y 1\nlet x y")
        self.assertEqual(worn(module, "s", "l"), (module[0], (), (("s", kind_in("(rec l num)")), module[2][1]), module[3], module[4]))
        bare = module_in("module m\nseal s num\nlet x 1")
        self.assertEqual(worn(bare, "s", "l"), ("m", (), (("s", kind_in("(rec l num)")),), (), bare[4]))

    def test_names_that_are_bound_or_stand_elsewhere(self):
        rows = ["module m", "seal t num", "tell a m.t", "tell b (fun m.t m.t)", "tell c (fun m.t num)", "let a 1", "let z a", "let d (fun e (call (fun a (add a e)) z))"]
        rows += ["let b (fun a (add a (call d a)))", "let c (fun b (under b 9 (case (tag a b) a f (add f (call (fun d d) b))) (call c (less b 1))))"]
        module = module_in("\n".join(rows))
        self.assertEqual(faults([module]), [])
        found = module
        for label in ("a", "b", "c"):
            found = worn(found, "t", label)
            self.assertEqual(faults([found]), [])
            self.assertGreater(self.looked_over([], module, found, 7), 8)

    def test_names_that_are_bound_around_others(self):
        for bound in ("(fun c (add c (call a c)))", "(fun x (case (tag l x) l c (add c (call a c))))", "(fun x (case (tag l x) l d (call (fun c (add c (call a d))) d)))"):
            module = module_in(f"module m\nseal t num\ntell a (fun m.t m.t)\ntell b (fun m.t m.t)\ntell x m.t\nlet a (fun x (add x 1))\nlet b {bound}\nlet x 5")
            found = worn(module, "t", "l")
            self.assertEqual(faults([found]), [])
            self.looked_over([], module, found, 5)

    def test_what_is_begun_when(self):
        # what is told by a value is begun where it's named, and once: neither later nor more often
        module = module_in("\n".join([
            "module m", "seal t num", "tell bad (fun m.t m.t)", "tell f (fun m.t m.t)", "tell get (fun m.t num)", "tell new m.t", "tell none (rec a m.t b num)", "tell part (fun m.t (fun m.t m.t))",
            "let w (fun n (under n 1 (fun x (add x 1)) (call w (less n 1))))", "let f (call w 50)", "let get (fun x x)", "let new 3", "let bad ?", "let none ?", "let part (fun x ?)"]))
        found = worn(module, "t", "l")
        self.assertEqual(faults([module, found][1:]), [])
        many = "(call m.get (call (fun f (call f (call f (call f (call f (call f (call f m.new))))))) m.f))"
        self.looked_over([], module, found, 5, ("(call (fun x 1) m.bad)", "(call (fun x 1) m.none)", "(call (fun x 1) (call m.part m.new))", "(call (fun x 1) m.part)", "(call (fun x 1) m.f)", many))
        steps = [used([one], term_in(many), most=9000)[1] for one in (module, found)]
        self.assertLess(steps[1], 2 * steps[0])

    def test_steps_of_great_ones(self):
        labels = [one + two for one in "abc" for two in "abcd"]
        kind = "(rec " + " ".join(label + " m.t" for label in labels) + ")"
        inside = "(rec " + " ".join(label + " 1" for label in labels) + ")"
        module = module_in(f"module m\nseal t num\ntell get (fun m.t num)\ntell r {kind}\ntell same (fun {kind} {kind})\nlet r {inside}\nlet get (fun x x)\nlet same (fun r (put r aa (get r aa)))")
        found = worn(module, "t", "l")
        self.assertEqual(size_of(kind_in(kind)), 13)
        self.assertEqual(faults([module]), [])
        inner = "r"
        for _ in range(12):
            inner = f"(call m.same {inner})"
        self.looked_over([], module, found, 3, ("(call m.get (get m.r cd))", f"(call (fun r (call m.get (get {inner} ab))) m.r)"))

    def test_no_seal_ahead_of_no_wear(self):
        module = module_in("module m\nseal t num\nseal u num\ntell a (sum x m.t y num)\ntell b (fun num (sum x (rec z (fun m.t num)) *0))\ntell c (sum x m.t *0)\nlet c (tag x 1)\nlet a c\nlet b (fun n (tag x (rec z (fun y (add y n)))))")
        self.assertEqual(faults([module]), [])
        for seal in ("s", "x", "a", "", "A b", "tt"):
            self.assertEqual(refused(module, seal, "l"), ("NoSeal", seal))
        self.assertEqual(refused(module, "t", "l"), ("NoWear", "b"))
        self.assertEqual(refused(module, "u", "l")[2], (("t", ("num",)), ("u", kind_in("(rec l num)"))))
        for kind, told in (("(sum x m.t *0)", "NoWear"), ("(sum x num *0)", "m"), ("(sum x m.t)", "m"), ("(sum x (sum x m.t) *0)", "NoWear"),
                           ("(sum x (sum x m.t *0))", "NoWear"), ("(sum a (fun (rec x m.t) num) *0)", "NoWear"), ("(sum x m.t y (sum x num *0))", "m"),
                           ("(rec a (sum x num *0) b m.t)", "m"), ("(fun m.t (sum x num *0))", "m"), ("(sum x q.t *0)", "m"), ("(sum x m.u *0)", "m")):
            made = ("m", ("q",), module[2], (("v", kind_in(kind)),), (("v", ("hole",)),))
            self.assertEqual(refused(made, "t", "l")[0], told, kind)
            self.assertEqual(hinders(made, "t"), "v" if told == "NoWear" else None)

    def test_by_chance(self):
        chance = random.Random(100)
        counts = {"NoWear": 0, "same": 0, "other": 0, "numbers": 0}
        for _ in range(6000):
            whole = likely_whole(chance)
            if not whole[-1][2] or faults(whole) or not any(owns_of(whole[-1])):
                continue
            module = whole[-1]
            seal = chance.choice(module[2])[0]
            kept = copy.deepcopy(module)
            found = refused(module, seal, chance.choice("abl"))
            self.assertEqual(module, kept)
            first = hinders(module, seal)
            if first is not None:
                self.assertEqual(found, ("NoWear", first))
                counts["NoWear"] += 1
                continue
            self.assertEqual(faults(whole[:-1] + [found]), [])
            counts["same" if found[4] == module[4] else "other"] += 1
            if found[4] != module[4]:
                small = (module[0], module[1], module[2], module[3][:3], module[4])
                counts["numbers"] += self.looked_over(whole[:-1], module, found, 5 if len(module[3]) < 4 else 4) > 4
                self.assertIs(is_module(small), True)
        self.assertTrue(min(counts.values()) > 5, counts)

    def test_no_fault_where_told_kinds_are_not_too_great(self):
        # thirty things, opened as worn, and fifteen deep
        for text in ("(fun (rec a num b m.t) " * 5 + "m.t" + ")" * 5, "(rec a " * 5 + "(fun num m.t)" + ")" * 5, "(rec a " * 5 + "m.t" + ")" * 5, "(sum a " * 5 + "m.t" + ")" * 5):
            kind = kind_in(text)
            deep = "(rec a (rec a (rec a (rec a (rec a num)))))"
            for inside in ("num", deep):
                module = ("m", (), (("t", kind_in(inside)),), (("v", kind),), (("v", ("hole",)),))
                for _ in range(3):
                    module = worn(module, "t", "l")
                    as_worn = opened(kind, [("m", "t", module[2][0][1])])
                    if size_of(as_worn) <= 30:
                        self.assertLessEqual(deep_of(as_worn), 15)
                        self.assertEqual(faults([module]), [], as_worn)


def owns_of(module):
    """The seals of its own that stand in its values."""
    return [own for _, kind in module[3] for m, own in plainmodules.owns(kind) if m == module[0]]


if __name__ == "__main__":
    unittest.main()
