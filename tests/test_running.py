import copy
import random
import unittest

from sealedkinds import errors
from sealedkinds.errors import Bare, Clash, Met, NoModule, NotNum, NoValue, TooLong, Unknown
from sealedkinds.joined import faults
from sealedkinds.kindtext import kind_in
from sealedkinds.moduletext import module_in, module_text
from sealedkinds.running import LIMIT, ran, used
from sealedkinds.terms import things_in
from sealedkinds.termtext import term_in
from sealedkinds.worths import fits, is_worth
from tests import plainruns
from tests.chancemodules import chance_module, likely_whole
from tests.test_joined import PAIRS, whole_of
from tests.things import chance_term

FUN = ("fun",)


def num(n):
    return ("num", n)


def rec(**worths):
    return ("rec", tuple(sorted(worths.items())))


def one_of(text, more=""):
    """A whole of one module m that defines x so, and more rows."""
    return [module_in(f"module m{more}\nlet x {text}")]


def refused(asked, *handed, **more):
    """(class's name, what) of the refusal; what is told, where there's none."""
    try:
        return asked(*handed, **more)
    except (Bare, Clash, Met, NoModule, NotNum, NoValue, TooLong, Unknown) as refusal:
        return (type(refusal).__name__, refusal.what)


# of each rule: the term, its worth, and its steps
RUNS = (
    ("7", num(7), 1), ("0", num(0), 1), ("99990", num(99990), 1), ("(fun y ?)", FUN, 1), ("(fun y y)", FUN, 1),
    ("(add 2 3)", num(5), 3), ("(add 99990 1)", num(0), 3), ("(add 99990 99990)", num(99989), 3), ("(less 5 3)", num(2), 3),
    ("(less 3 5)", num(99989), 3), ("(less 0 99990)", num(1), 3), ("(less 3 3)", num(0), 3), ("(times 6 7)", num(42), 3),
    ("(times 400 400)", num(60009), 3), ("(times 99990 99990)", num(1), 3), ("(times 0 9)", num(0), 3),
    ("(under 1 2 3 4)", num(3), 4), ("(under 2 2 3 4)", num(4), 4), ("(under 3 2 3 (add 4 4))", num(8), 6), ("(under 1 2 (add 1 1) ?)", num(2), 6),
    ("(under 2 1 ? 4)", num(4), 4), ("(under (less 0 1) 1 3 4)", num(4), 6), ("(under 0 1 (rec) (fun y y))", rec(), 4),
    ("(rec)", rec(), 1), ("(rec a 1 b (rec c (fun y y)))", rec(a=num(1), b=rec(c=FUN)), 4), ("(get (rec a 1 b 2) b)", num(2), 4),
    ("(get (get (rec a (rec b 7)) a) b)", num(7), 5), ("(put (rec a 1 b 2) a (rec))", rec(a=rec(), b=num(2)), 5),
    ("(put (rec a 1) a (add 1 1))", rec(a=num(2)), 6), ("(put (rec a 1 b 2 c 3) b 9)", rec(a=num(1), b=num(9), c=num(3)), 6),
    ("(tag a 1)", ("tag", "a", num(1)), 2), ("(tag a (tag b (fun y y)))", ("tag", "a", ("tag", "b", FUN)), 3),
    ("(case (tag b 5) a y 1 b z (add z z))", num(10), 6), ("(case (tag a (rec)) a y y b z 1)", rec(), 4), ("(case (tag a 1) a y 7)", num(7), 4),
    ("(call (fun y y) 4)", num(4), 4), ("(call (fun y (add y y)) (add 1 2))", num(6), 8), ("(call (fun y 1) (fun z ?))", num(1), 4),
    # names bound: the nearest one
    ("(call (call (fun y (fun z (less y z))) 5) 3)", num(2), 9), ("(call (call (fun y (fun y y)) 1) 2)", num(2), 7),
    ("(call (fun y (add (call (fun y y) 2) y)) 1)", num(3), 9), ("(case (tag a 1) a y (case (tag a 2) a y y))", num(2), 7),
    ("(case (tag a 1) a y (add (case (tag a 2) a y y) y))", num(3), 9),
    # what is carried around with a function is what was bound where it was made
    ("(call (fun f (call (fun y (call f 1)) 5)) (call (fun y (fun z (rec y y z z))) 7))", rec(y=num(7), z=num(1)), 15),
    ("(call (case (tag a 4) a y (fun z (add y z))) 1)", num(5), 9),
)
SUM = "\nlet s (fun n (under n 1 0 (add n (call s (less n 1)))))"
LOOP = "\nlet w (fun n (call w n))"


class Ran(unittest.TestCase):
    def test_each_rule(self):
        for text, worth, steps in RUNS:
            whole = one_of(text)
            self.assertEqual(ran(whole, "m", "x"), (worth, steps), text)
            self.assertEqual(ran(whole, "m", "x", most=steps), (worth, steps), text)
            self.assertEqual(refused(ran, whole, "m", "x", most=steps - 1), ("TooLong", steps - 1), text)
            self.assertEqual(plainruns.ran(whole, "m", "x"), (worth, steps), text)
            self.assertIs(is_worth(worth), True)

    def test_sums_by_calls_in_one_another(self):
        # call, s, its fun, n, and at last under, n, 1, 0; of each call within: under, n, 1, add, n, call, s, its fun, less, n, 1
        for n, steps in ((0, 8), (1, 19), (2, 30), (150, 1658)):
            whole = one_of(f"(call s {n})", SUM)
            self.assertEqual(ran(whole, "m", "x"), (num(n * (n + 1) // 2), steps))
            self.assertEqual(plainruns.ran(whole, "m", "x"), (num(n * (n + 1) // 2), steps))

    def test_limit(self):
        self.assertEqual(LIMIT, 2000)
        whole = one_of("(call w 1)", LOOP)
        for most, many in (({}, 2000), ({"most": 2000}, 2000), ({"most": 0}, 0), ({"most": 1}, 1), ({"most": 5000}, 5000)):
            self.assertEqual(refused(ran, whole, "m", "x", **most), ("TooLong", many))
        # 8 + 11 * 181 is just below it, 8 + 11 * 182 just beyond; as many as 5,000, in one another
        self.assertEqual(ran(one_of("(call s 181)", SUM), "m", "x"), (num(181 * 91), 1999))
        self.assertEqual(refused(ran, one_of("(call s 182)", SUM), "m", "x"), ("TooLong", 2000))
        self.assertEqual(ran(one_of("(call s 453)", SUM), "m", "x", most=5000), (num(453 * 227 % 99991), 4991))
        self.assertEqual(ran(one_of("(call s 453)", SUM), "m", "x", most=4991)[1], 4991)
        self.assertEqual(refused(ran, one_of("(call s 453)", SUM), "m", "x", most=4990), ("TooLong", 4990))
        deep = one_of("(tag a x)")
        self.assertEqual(refused(ran, deep, "m", "x", most=5000), ("TooLong", 5000))
        self.assertEqual(refused(ran, one_of("(call x x)"), "m", "x", most=5000), ("TooLong", 5000))

    def test_too_long_ahead_of_what_the_step_would_be_refused_for(self):
        for text, steps in (("?", 0), ("(add 1 ?)", 2), ("q.y", 1), ("y", 1), ("(add 1 (add 1 y))", 5)):
            whole = one_of(text)
            word = refused(ran, whole, "m", "x")[0]
            self.assertIn(word, ("Bare", "NoValue"))
            begun = steps + 1 if word == "Bare" else steps
            self.assertEqual(refused(ran, whole, "m", "x", most=begun)[0], word, text)
            for most in range(begun):
                self.assertEqual(refused(ran, whole, "m", "x", most=most), ("TooLong", most), text)
        # what isn't right is told ahead of a step that would be one too many
        self.assertEqual(refused(ran, one_of("(call 1 ?)"), "m", "x", most=2), ("Met", ("m", "x", ())))
        self.assertEqual(refused(ran, one_of("(call 1 ?)"), "m", "x", most=1), ("TooLong", 1))

    def test_names_and_froms(self):
        whole = whole_of("""
            module a
            tell y num
            let y (add z 1)
            let z 4
            let f (fun y (add y z))

            module b
            let x a.y
            let p (call a.f 10)
            let z 50
            let w (call (fun z (call a.f z)) 1)
            let q later
            let later (rec l z)
            let f (call (fun a a.z) 3)
            let n a.n
            let o a
            let r q.y
            let s (call a.f o)
        """)
        for x, told in (("x", (num(5), 5)), ("p", (num(14), 8)), ("w", (num(5), 11)), ("q", (rec(l=num(50)), 4)), ("f", (num(4), 5)),
                        ("n", ("NoValue", ("a", "n"))), ("o", ("NoValue", ("b", "a"))), ("r", ("NoValue", ("q", "y"))), ("s", ("NoValue", ("b", "a")))):
            self.assertEqual(refused(ran, whole, "b", x), told, x)
            self.assertEqual(refused(ran, whole[::-1], "b", x), told, x)
            self.assertEqual(refused(ran, tuple(whole), "b", x), told, x)
            self.assertEqual(plainruns.ran(whole, "b", x), told, x)

    def test_no_module_ahead_of_no_value(self):
        for whole in (PAIRS, tuple(PAIRS)):
            for name, x, told in (("q", "two", ("NoModule", "q")), ("q", "q", ("NoModule", "q")), ("", "", ("NoModule", "")),
                                  ("user", "first", ("NoValue", "first")), ("user", "", ("NoValue", "")), ("pairs", "two", ("NoValue", "two")),
                                  ("A b!", "two", ("NoModule", "A b!")), ("user", "A b!", ("NoValue", "A b!"))):
                self.assertEqual(refused(ran, whole, name, x, most=0), told)
        self.assertEqual(refused(ran, [], "m", "x"), ("NoModule", "m"))

    def test_bare(self):
        for text, place in (("?", ()), ("(add 1 ?)", (1,)), ("(call (fun y (rec a 1 b ?)) 2)", (0, 0, 1)), ("(case (tag a 1) a y ?)", (1,)),
                            ("(add ? (call 1 1))", (0,)), ("(under 1 2 ? 3)", (2,))):
            self.assertEqual(refused(ran, one_of(text), "m", "x"), ("Bare", ("m", "x", place)), text)
        whole = whole_of("module a\nlet h (rec a ?)\n\nmodule m\nlet x (add 1 a.h)")
        self.assertEqual(refused(ran, whole, "m", "x"), ("Bare", ("a", "h", (0,))))

    def test_met_of_each_rule_by_each_sort(self):
        sorts = {"num": "1", "fun": "(fun y y)", "rec": "(rec a 1)", "other rec": "(rec b 1)", "tag": "(tag a 1)", "other tag": "(tag b 1)"}
        # what takes which sorts, and what would be refused if it were begun behind that
        for around, fitting, place in (
            ("(call W 1)", ["fun"], ()), ("(call W ?)", ["fun"], ()), ("(add W ?)", ["num"], ()), ("(add 1 W)", ["num"], ()), ("(less W ?)", ["num"], ()),
            ("(less 1 W)", ["num"], ()), ("(times W ?)", ["num"], ()), ("(times 1 W)", ["num"], ()), ("(under W ? ? ?)", ["num"], ()),
            ("(under 1 W ? ?)", ["num"], ()), ("(get W a)", ["rec"], ()), ("(put W a ?)", ["rec"], ()), ("(case W a y ?)", ["tag"], ()),
            ("(rec l (add W ?))", ["num"], (0,)), ("(call (fun y (add y ?)) W)", ["num"], (0, 0)), ("(case (tag a W) a y (add ? y))", [], None),
            ("(call (fun y (call y ?)) W)", ["fun"], (0, 0)), ("(put (rec a ?) a W)", [], None),
        ):
            for name, text in sorts.items():
                whole = one_of(around.replace("W", text))
                found = refused(ran, whole, "m", "x")
                self.assertEqual(found, plainruns.ran(whole, "m", "x"))
                if place is not None and name not in fitting:
                    self.assertEqual(found, ("Met", ("m", "x", place)), around)
                elif "?" in around:
                    self.assertEqual(found[0], "Bare", around)
                else:
                    self.assertIsInstance(found[1], int, around)

    def test_met_of_another_definition(self):
        whole = whole_of("module a\nlet f (fun y (add y 1))\nlet g (rec l (fun y (get y q)))\n\nmodule m\nlet x (call a.f (rec))\nlet y (call (get a.g l) (rec p 1))")
        self.assertEqual(refused(ran, whole, "m", "x"), ("Met", ("a", "f", (0,))))
        self.assertEqual(refused(ran, whole, "m", "y"), ("Met", ("a", "g", (0, 0))))
        self.assertEqual(refused(ran, whole, "m", "x", most=8), ("Met", ("a", "f", (0,))))
        # call, from, fun, rec; add, y: then it's told
        self.assertEqual(refused(ran, whole, "m", "x", most=6), ("Met", ("a", "f", (0,))))
        self.assertEqual(refused(ran, whole, "m", "x", most=5), ("TooLong", 5))

    def test_order_of_what_is_begun(self):
        # the first one that is begun refuses
        for text, what in (("(add p q)", "p"), ("(call p q)", "p"), ("(call (fun y q) p)", "p"), ("(under 1 p q r)", "p"), ("(under 1 2 p q)", "p"),
                           ("(under 2 1 q p)", "p"), ("(rec a p b q)", "p"), ("(rec a 1 b p c q)", "p"), ("(put p a q)", "p"), ("(put (rec a 1) a p)", "p"),
                           ("(case p a y q)", "p"), ("(case (tag a 1) a y p b y q)", "p"), ("(case (tag b 1) a y q b y p)", "p"), ("(tag a p)", "p"), ("(get p a)", "p")):
            self.assertEqual(refused(ran, one_of(text), "m", "x"), ("NoValue", ("m", what)), text)

    def test_too_great_worths(self):
        def doubled(many, text="1"):
            rows = ["module m", f"let xa {text}"]
            names = ["x" + letter for letter in "abcdefghijklmnopqrstuvwxyz"]
            for one, other in zip(names[:many], names[1:]):
                rows.append(f"let {other} (call (fun y (rec a y b y)) {one})")
            return [module_in("\n".join(rows))], names[many]
        for many, great in ((5, False), (6, True), (7, True), (24, True)):
            whole, x = doubled(many)
            found = refused(ran, whole, "m", x)
            if great:
                self.assertEqual(found, ("TooLong", 100))
            else:
                self.assertEqual(plainruns.measured(found[0])[0], 2 ** (many + 1) - 1)
        for many in (98, 99, 100, 101):
            labels = sorted(one + two for one in "abcdefghijkl" for two in "abcdefghijkl")[:many]
            found = refused(ran, one_of(f"(rec {' '.join(label + ' 1' for label in labels)})"), "m", "x")
            self.assertEqual(found[0] == "TooLong", many >= 100)
            self.assertEqual(found[1], many + 1 if many < 100 else 100)
        for many in range(13, 20):
            for inner, around in (("(rec)", "(rec a {})"), ("(fun y y)", "(tag a {})"), ("1", "(tag abcdefgh {})")):
                text = inner
                for _ in range(many):
                    text = around.format(text)
                found = refused(ran, one_of(text), "m", "x")
                self.assertEqual(found == ("TooLong", 100), many >= 16, many)
        # a tag of many tags, by a loop
        loop = one_of("(call w 5)", "\nlet w (fun n (under n 1 (fun y y) (tag a (call w (less n 1)))))")
        self.assertEqual(plainruns.measured(ran(loop, "m", "x")[0]), (6, 6))
        loop = one_of("(call w 190)", "\nlet w (fun n (under n 1 (fun y y) (tag a (call w (less n 1)))))")
        self.assertEqual(refused(ran, loop, "m", "x"), ("TooLong", 100))
        # only what is told counts, not what it was made of, nor what a function carries around
        whole, x = doubled(24)
        text = module_text(whole[0])
        self.assertEqual(ran([module_in(text + f"\nlet z (call (fun y (fun z y)) {x})")], "m", "z")[0], FUN)
        self.assertEqual(ran([module_in(text + f"\nlet z (call (fun y 1) {x})")], "m", "z")[0], num(1))

    def test_against_plain(self):
        chance = random.Random(92)
        words = {}
        for _ in range(700):
            whole = likely_whole(chance)
            if chance.random() < 0.5:
                whole += [chance_module(chance, name) for name in ("e", "k")]
            most = chance.choice((0, 3, 10, 30, 200))
            for module in whole:
                for x in [x for x, _ in module[4]] + ["q"]:
                    found = refused(ran, whole, module[0], x, most=most)
                    self.assertEqual(found, plainruns.ran(whole, module[0], x, most), module_text(module))
                    words[found[0] if isinstance(found[0], str) else found[0][0]] = words.get(found[0] if isinstance(found[0], str) else found[0][0], 0) + 1
        for word in ("num", "rec", "tag", "fun", "TooLong", "Bare", "Met", "NoValue"):
            self.assertGreater(words.get(word, 0), 20, words)

    def test_wholes_without_faults_meet_nothing_wrong(self):
        chance = random.Random(93)
        many = 0
        for _ in range(700):
            whole = likely_whole(chance)
            if faults(whole):
                continue
            for module in whole:
                kinds = dict(module[3])
                for x, _ in module[4]:
                    found = refused(ran, whole, module[0], x)
                    self.assertNotIn(found[0], ("Met", "NoValue", "NoModule"))
                    if not isinstance(found[0], str) and x in kinds:
                        many += 1
                        self.assertIs(fits(kinds[x], found[0]), True)
        self.assertGreater(many, 100)


class Used(unittest.TestCase):
    def test_numbers(self):
        for text, told in (("1", (1, 1)), ("(add 1 2)", (3, 3)), ("user.three", (3, 19)), ("(add user.three 1)", (4, 21)),
                           ("(call pairs.first (call (call pairs.made 5) 2))", (5, 15)), ("(call (fun y (add y 1)) 3)", (4, 6)),
                           ("(get (rec a user.three) a)", (3, 21))):
            for whole in (PAIRS, tuple(PAIRS)):
                self.assertEqual(used(whole, term_in(text)), told, text)
            self.assertEqual(used(PAIRS, term_in(text), most=told[1]), told)
            self.assertEqual(refused(used, PAIRS, term_in(text), most=told[1] - 1), ("TooLong", told[1] - 1))
        self.assertEqual(used([], term_in("0")), (0, 1))

    def test_refused_in_order(self):
        whole = whole_of("""
            module a
            seal t num
            tell h *0
            tell n num
            tell s a.t
            tell w (fun num *0)
            let h ?
            let n 3
            let s 4
            let w (fun n (call w n))
            let secret 5
        """)
        for text, told in (
            ("a.secret", ("Unknown", ())), ("(add (rec) a.secret)", ("Unknown", (1,))), ("q.n", ("Unknown", ())), ("n", ("Unknown", ())),
            ("(call 1 n)", ("Unknown", (1,))), ("(fun y (add q y))", ("Unknown", (0, 0))), ("(add (rec) 1)", ("Clash", ())),
            ("(call a.n ?)", ("Clash", ())), ("(add a.s 1)", ("Clash", ())), ("(rec l (call 1 1))", ("Clash", (0,))),
            ("a.s", ("NotNum", kind_in("a.t"))), ("(fun y (rec a y))", ("NotNum", kind_in("(fun *0 (rec a *0))"))), ("(rec)", ("NotNum", kind_in("(rec)"))),
            ("(rec b ? c ?)", ("NotNum", kind_in("(rec b *0 c *1)"))), ("(tag a 1)", ("NotNum", kind_in("(sum a num *0)"))), ("a.w", ("NotNum", kind_in("(fun num *0)"))),
            ("?", ("Bare", ("", "", ()))), ("(add 1 ?)", ("Bare", ("", "", (1,)))), ("a.h", ("Bare", ("a", "h", ()))), ("(add a.n a.h)", ("Bare", ("a", "h", ()))),
            ("(call a.w 1)", ("TooLong", 2000)), ("(add (call a.w 1) ?)", ("TooLong", 2000)), ("a.n", (3, 2)),
        ):
            self.assertEqual(refused(used, whole, term_in(text)), told, text)
            self.assertEqual(plainruns.used(whole, term_in(text)), told, text)
        for text, told in (("a.secret", "Unknown"), ("(add (rec) 1)", "Clash"), ("(rec)", "NotNum"), ("?", "TooLong")):
            self.assertEqual(refused(used, whole, term_in(text), most=0)[0], told)

    def test_met(self):
        # of wholes with faults: what is told isn't what it is said to be
        whole = whole_of("""
            module a
            tell f (fun num num)
            tell g num
            tell h *0
            tell n num
            tell none num
            tell r (rec l num)
            let f 1
            let g (rec)
            let h (fun y y)
            let n (add 1 (rec))
            let r (rec m 1)
        """)
        for text, told in (("(call a.f 1)", ("Met", ("", "", ()))), ("(add 1 (call a.f 1))", ("Met", ("", "", (1,)))), ("a.g", ("Met", ("", "", ()))),
                           ("(call (fun y y) a.g)", ("Met", ("", "", ()))), ("a.h", ("Met", ("", "", ()))), ("a.n", ("Met", ("a", "n", ()))),
                           ("(add 1 a.n)", ("Met", ("a", "n", ()))), ("(add 1 (add 1 a.g))", ("Met", ("", "", (1,)))), ("a.none", ("NoValue", ("a", "none"))),
                           ("(get a.r l)", ("Met", ("", "", ()))), ("(under 0 1 2 (get a.r l))", (2, 4)), ("(under 1 0 2 (get a.r l))", ("Met", ("", "", (3,))))):
            self.assertEqual(refused(used, whole, term_in(text)), told, text)
            self.assertEqual(plainruns.used(whole, term_in(text)), told, text)

    def test_whatever_the_size_of_its_worth(self):
        rows = ["module a", "tell z num", "let xa 1"]
        names = ["x" + letter for letter in "abcdefghijklmnopqrst"]
        rows += [f"let {other} (call (fun y (rec a y b y)) {one})" for one, other in zip(names, names[1:])]
        whole = [module_in("\n".join(rows + ["let z xt"]))]
        self.assertEqual(refused(used, whole, term_in("a.z")), ("Met", ("", "", ())))
        self.assertEqual(refused(ran, whole, "a", "z"), ("TooLong", 100))

    def test_against_plain(self):
        chance = random.Random(94)
        words = {}
        for _ in range(400):
            whole = likely_whole(chance)
            froms = [("from", module[0], x) for module in whole for x, _ in module[3]] or [("num", 1)]

            def with_froms(term):
                if term[0] in ("name", "from"):
                    return chance.choice(froms)
                return tuple(with_froms(part) if isinstance(part, tuple) and part and isinstance(part[0], str) and term[0] not in ("rec", "case") else part
                             for part in term)
            for _ in range(4):
                term = chance.choice((with_froms(chance_term(chance, 3)), chance.choice(froms), ("call", chance.choice(froms), ("num", 1)),
                                      ("get", ("call", chance.choice(froms), chance.choice(froms)), "a")))
                self.assertLess(things_in(term), 40)
                most = chance.choice((2, 20, 300))
                found = refused(used, whole, term, most=most)
                self.assertEqual(found, plainruns.used(whole, term, most))
                words[found[0] if isinstance(found[0], str) else "number"] = words.get(found[0] if isinstance(found[0], str) else "number", 0) + 1
        for word in ("number", "Clash", "NotNum", "TooLong", "Unknown"):
            self.assertGreater(words.get(word, 0), 10, words)


class Answers(unittest.TestCase):
    def test_nothing_is_changed(self):
        kept = copy.deepcopy(PAIRS)
        term = term_in("(add user.three 1)")
        for _ in range(2):
            self.assertEqual(ran(PAIRS, "user", "three"), (num(3), 18))
            self.assertEqual(used(PAIRS, term), (4, 21))
            self.assertEqual(refused(ran, PAIRS, "user", "q"), ("NoValue", "q"))
            self.assertEqual(PAIRS, kept)
        self.assertIsInstance(ran(PAIRS, "user", "three"), tuple)
        self.assertIsInstance(used(PAIRS, term), tuple)

    def test_most_is_handed_in_by_its_name_alone(self):
        with self.assertRaises(TypeError):
            ran(PAIRS, "user", "three", 5)
        with self.assertRaises(TypeError):
            used(PAIRS, ("num", 1), 5)
        self.assertTrue(issubclass(errors.TooLong, OverflowError))


if __name__ == "__main__":
    unittest.main()
