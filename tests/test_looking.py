import copy
import itertools
import random
import unittest

from sealedkinds import looking
from sealedkinds.errors import Clash, Unknown
from sealedkinds.kinds import deep_of, is_kind, size_of, told
from sealedkinds.kindtext import kind_in, kind_text
from sealedkinds.looking import can_be, kind_of
from sealedkinds.opening import comes_to
from sealedkinds.terms import places_of, things_in
from sealedkinds.termtext import term_in, term_text
from tests import plain
from tests.things import chance_kind, chance_term

KNOWN = (
    ("i", "(fun *0 *0)"), ("one", "num"), ("inc", "(fun num num)"), ("p", "(fun *3 (rec a *3 b *3))"), ("any", "*9"),
    ("geta", "(fun (rec a *0 *1) *0)"), ("seal", "m.t"), (("m", "x"), "(fun m.t num)"), (("m", "i"), "(fun *5 *5)"),
    ("opt", "(fun (sum none (rec) some *0) *0)"), ("keep", "(fun (rec a num *0) (rec a m.t *0))"),
)


def known_of(*pairs):
    return [(what, kind_in(text)) for what, text in pairs]


def wide(things):
    """A kind of so many things, at most 10 deep: records of records."""
    kind = ("rec", (), None)
    left = things - 1
    while left > 0:
        take = min(left, 20)
        labels = sorted("abcdefghijklmnopqrst"[:take])
        pairs = [(label, ("num",)) for label in labels]
        pairs[0] = (pairs[0][0], kind)
        # The kind that is put there counts already.
        kind = ("rec", tuple(pairs), None)
        left = things - size_of(kind)
    return kind


def deep(levels):
    """A kind so deep."""
    kind = ("num",)
    for _ in range(levels - 1):
        kind = ("rec", (("a", kind),), None)
    return kind


class EachRule(unittest.TestCase):
    def found(self, text, kind, *pairs, own=None):
        self.assertEqual(kind_text(kind_of(term_in(text), known_of(*(pairs or KNOWN)), own=own)), kind, text)

    def clash(self, text, place, *pairs, own=None):
        with self.subTest(text), self.assertRaises(Clash) as caught:
            kind_of(term_in(text), known_of(*(pairs or KNOWN)), own=own)
        self.assertEqual(caught.exception.what, place, text)

    def test_num_and_hole(self):
        self.found("0", "num")
        self.found("99990", "num")
        self.found("?", "*0")
        self.found("(rec a ? b ?)", "(rec a *0 b *1)")
        self.clash("(call 1 ?)", ())

    def test_names_and_froms(self):
        self.found("one", "num")
        self.found("any", "*0")
        self.found("p", "(fun *0 (rec a *0 b *0))")
        self.found("seal", "m.t")
        self.found("m.x", "(fun m.t num)")
        self.found("m.i", "(fun *0 *0)")
        self.found("(call m.x seal)", "num")
        self.clash("(call m.x 1)", ())
        self.clash("(add seal 1)", ())

    def test_a_known_name_at_two_kinds(self):
        self.found("(rec a (call i 1) b (call i (rec)))", "(rec a num b (rec))")
        self.found("(rec a (call m.i 1) b (call m.i (rec)))", "(rec a num b (rec))")
        self.found("(call i i)", "(fun *0 *0)")
        self.found("(rec a i b i c any d any)", "(rec a (fun *0 *0) b (fun *1 *1) c *2 d *3)")
        # what is bound stands at one kind alone, by the nearest around it
        self.clash("(fun i (rec a (call i 1) b (call i (rec))))", (0, 1))
        self.found("(fun one (get one a))", "(fun (rec a *0 *1) *0)")

    def test_fun(self):
        self.found("(fun x x)", "(fun *0 *0)")
        self.found("(fun x 1)", "(fun *0 num)")
        self.found("(fun x (fun y x))", "(fun *0 (fun *1 *0))")
        self.found("(fun x (fun x x))", "(fun *0 (fun *1 *1))")
        self.found("(fun x (add x 1))", "(fun num num)")
        self.clash("(fun x (call x x))", (0,))
        self.clash("(fun x (rec a (add x 1) b (get x a)))", (0, 1))
        self.clash("(add (fun x x) 1)", ())

    def test_call(self):
        self.found("(call inc 1)", "num")
        self.found("(call (fun x (rec a x)) 1)", "(rec a num)")
        self.found("(fun f (fun x (call f (call f x))))", "(fun (fun *0 *0) (fun *0 *0))")
        self.found("(fun f (call f 1))", "(fun (fun num *0) *0)")
        self.found("(call ? 1)", "*0")
        self.clash("(call inc (rec))", ())
        self.clash("(call inc inc)", ())
        self.clash("(call (rec) 1)", ())
        self.clash("(call seal 1)", ())

    def test_reckoning(self):
        for word in ("add", "less", "times"):
            self.found(f"({word} 1 2)", "num")
            self.found(f"(fun x (fun y ({word} x y)))", "(fun num (fun num num))")
            self.found(f"(fun f (fun g (rec a (call f ({word} 1 1)) b ({word} (call g 1) 1))))",
                       "(fun (fun num *0) (fun (fun num num) (rec a *0 b num)))")
            self.clash(f"({word} (rec) 1)", ())
            self.clash(f"({word} 1 (rec))", ())
            self.clash(f"(call ({word} 1 2) 1)", ())
            self.clash(f"(get ({word} ? ?) a)", ())

    def test_under(self):
        self.found("(under 1 2 3 4)", "num")
        self.found("(under ? ? (rec) ?)", "(rec)")
        self.found("(under ? ? ? ?)", "*0")
        self.found("(fun a (fun b (fun c (fun d (under a b c d)))))", "(fun num (fun num (fun *0 (fun *0 *0))))")
        self.found("(under 1 2 (tag a 1) (tag b (rec)))", "(sum a num b (rec) *0)")
        self.clash("(under (rec) 1 2 3)", ())
        self.clash("(under 1 (rec) 2 3)", ())
        self.clash("(under 1 2 3 (rec))", ())
        self.clash("(under 1 2 (rec a 1) (rec))", ())
        self.clash("(add (under 1 2 (rec) ?) 1)", ())

    def test_rec_get_put(self):
        self.found("(rec)", "(rec)")
        self.found("(rec a 1 b (rec c ?))", "(rec a num b (rec c *0))")
        self.found("(get (rec a 1 b (rec)) b)", "(rec)")
        self.found("(fun r (get r a))", "(fun (rec a *0 *1) *0)")
        self.found("(fun r (add (get r a) (get r b)))", "(fun (rec a num b num *0) num)")
        self.found("(fun r (rec a (get r b) b (get r a) c r))",
                   "(fun (rec a *0 b *1 *2) (rec a *1 b *0 c (rec a *0 b *1 *2)))")
        self.found("(fun r (put r a 1))", "(fun (rec a *0 *1) (rec a num *1))")
        self.found("(put (rec a 1 b 2) a (rec))", "(rec a (rec) b num)")
        self.found("(fun r (get (put r a 1) b))", "(fun (rec a *0 b *1 *2) *1)")
        self.found("(call geta (rec a 1 z 2))", "num")
        self.found("(call keep (rec a 1 b 2))", "(rec a m.t b num)")
        self.clash("(get (rec a 1) b)", ())
        self.clash("(get (tag a 1) a)", ())
        self.clash("(put (rec a 1) b 1)", ())
        self.clash("(put (rec) a 1)", ())
        self.clash("(call geta (rec b 1))", ())
        self.clash("(call (get (rec a 1) a) 1)", ())
        self.clash("(add (put (rec a 1) a 1) 1)", ())

    def test_tag_and_case(self):
        self.found("(tag a 1)", "(sum a num *0)")
        self.found("(fun x (tag a x))", "(fun *0 (sum a *0 *1))")
        self.found("(call opt (tag some 1))", "num")
        self.found("(fun s (case s a x x b y (add y 1)))", "(fun (sum a num b num) num)")
        self.found("(case (tag a 1) a x (rec z x) b y (rec z y))", "(rec z num)")
        self.found("(case ? a x 1)", "num")
        self.found("(fun s (case s a x s))", "(fun (sum a *0) (sum a *0))")
        self.clash("(case (tag c 1) a x 1 b y 2)", ())
        self.clash("(case ? a x 1 b y (rec))", ())
        self.clash("(case 1 a x 1)", ())
        self.clash("(case (rec a 1) a x 1)", ())
        self.clash("(fun s (add (case s a x 1) (case s a x 1 b y 2)))", (0, 1))
        self.clash("(call opt (tag other 1))", ())
        # the names of ways are each of its label's kind
        self.clash("(case (tag a 1) a x (get x l))", ())
        self.found("(fun x (case x a x x))", "(fun (sum a *0) *0)")


class Own(unittest.TestCase):
    def test_left_out_and_none(self):
        for more in ({}, {"own": None}):
            with self.assertRaises(Unknown) as caught:
                kind_of(term_in("(fun x (call f x))"), [], **more)
            self.assertEqual(caught.exception.what, (0, 0))

    def test_is_of_the_whole(self):
        for text, own, kind in (
            ("f", "f", "*0"), ("(fun x (call f x))", "f", "(fun *0 *1)"), ("(fun x (call f (add x 1)))", "f", "(fun num *0)"),
            ("(fun n (under n 1 0 (add 1 (call f n))))", "f", "(fun num num)"), ("(fun f f)", "f", "(fun *0 *0)"),
            ("(fun x (rec a x b (get (call f x) b)))", "f", "(fun *0 (rec a *0 b *1))"), ("1", "f", "num"),
            ("(fun x (tag a (call f x)))", "g", None),
        ):
            if kind is None:
                with self.assertRaises(Unknown):
                    kind_of(term_in(text), [], own=own)
            else:
                self.assertEqual(kind_text(kind_of(term_in(text), [], own=own)), kind)

    def test_stands_at_one_kind(self):
        with self.assertRaises(Clash) as caught:
            kind_of(term_in("(fun x (rec a (call f 1) b (call f (rec))))"), [], own="f")
        self.assertEqual(caught.exception.what, (0, 1))
        # the whole is a number by its name's use, long ahead of the rule of the whole
        with self.assertRaises(Clash) as caught:
            kind_of(term_in("(fun x (rec a (add f 1) b x))"), [], own="f")
        self.assertEqual(caught.exception.what, ())

    def test_where_it_is_known_too(self):
        known = known_of(("f", "num"), ("g", "num"))
        self.assertEqual(kind_of(term_in("f"), known, own="f"), ("any", 0))
        self.assertEqual(kind_of(term_in("g"), known, own="f"), ("num",))
        self.assertEqual(kind_of(term_in("f"), known), ("num",))

    def test_is_no_from(self):
        with self.assertRaises(Unknown) as caught:
            kind_of(term_in("(call f f.f)"), [], own="f")
        self.assertEqual(caught.exception.what, (1,))
        self.assertEqual(kind_of(term_in("f.f"), known_of((("f", "f"), "num")), own="f"), ("num",))

    def test_known_by_module_or_alone(self):
        for text, known in (("x", (("m", "x"), "num")), ("m.x", ("x", "num")), ("m.x", (("x", "m"), "num"))):
            with self.assertRaises(Unknown):
                kind_of(term_in(text), known_of(known))


class Refused(unittest.TestCase):
    def test_unknown_of_the_first_place_ahead_of_any_clash(self):
        for text, place in (
            ("x", ()), ("m.z", ()), ("(call 1 x)", (1,)), ("(call y x)", (0,)), ("(call (call 1 1) (add (rec) z))", (1, 1)),
            ("(fun x (call x (call y z)))", (0, 1, 0)), ("(case x a x x)", (0,)), ("(case 1 a x y)", (1,)),
            ("(rec a one b m.z c y)", (1,)), ("(rec a one b y c m.z)", (1,)), ("(call (fun x 1) x)", (1,)),
        ):
            term = term_in(text)
            with self.subTest(text), self.assertRaises(Unknown) as caught:
                kind_of(term, known_of(*KNOWN))
            self.assertEqual(caught.exception.what, place)
            for places in ([], places_of(term), [()]):
                with self.assertRaises(Unknown) as caught:
                    can_be(term, known_of(*KNOWN), places)
                self.assertEqual(caught.exception.what, place)

    def test_clash_of_the_first_place_in_order(self):
        for text, place in (
            ("(rec a (add (rec) 1) b (add 1 (rec)))", (0,)), ("(rec a 1 b (add 1 (rec)) c (call 1 1))", (1,)),
            ("(call (add 1 (rec)) (call 1 1))", (0,)), ("(fun x (call (add x 1) (get x a)))", (0, 1)),
            ("(fun x (rec a (get x a) b (add x 1)))", (0, 1)), ("(add (rec) (rec))", ()), ("(add (add (rec) 1) (rec))", (0,)),
        ):
            with self.subTest(text), self.assertRaises(Clash) as caught:
                kind_of(term_in(text), [])
            self.assertEqual(caught.exception.what, place)


class Bounds(unittest.TestCase):
    def known(self, things):
        return [("k", wide(things)), ("p", kind_in("(fun *0 (rec a *0 b *0))")), ("c", kind_in("(fun *0 (fun *1 num))"))]

    def found(self, text, known):
        try:
            return kind_of(term_in(text), known)
        except Clash as refusal:
            return refusal.what

    def test_wide(self):
        self.assertEqual(looking.WIDE, 100)
        for things in range(1, 130):
            self.assertEqual(size_of(wide(things)), things)
        self.assertEqual(self.found("k", self.known(100)), wide(100))
        self.assertEqual(self.found("k", self.known(101)), ())
        self.assertEqual(self.found("(rec a k)", self.known(99)), ("rec", (("a", wide(99)),), None))
        self.assertEqual(self.found("(rec a k)", self.known(100)), ())
        self.assertEqual(self.found("(rec a (add 1 (rec)) b k)", self.known(101)), (0,))
        self.assertEqual(self.found("(rec a k b (add 1 (rec)))", self.known(101)), (0,))
        self.assertEqual(self.found("k", [("k", wide(800))]), ())

    def test_wide_at_any_place(self):
        # what is told is small, but what it goes by is not
        self.assertEqual(self.found("(call (fun x 1) k)", self.known(98)), ("num",))
        self.assertEqual(self.found("(call (fun x 1) k)", self.known(99)), ())
        self.assertEqual(self.found("(get (rec a 1 b k) a)", self.known(98)), ("num",))
        self.assertEqual(self.found("(get (rec a 1 b k) a)", self.known(99)), (0,))
        # a place far ahead of the one by whose rule it grows
        text = "(call (fun x (get (rec a x b (rec c x d x)) a)) k)"
        self.assertEqual(self.found(text, self.known(32)), wide(32))
        self.assertEqual(self.found(text, self.known(33)), ())
        text = "(call (call c k) k)"
        for things, found in ((48, ("num",)), (49, ()), (96, ()), (97, (0,)), (100, (0,)), (101, (0, 1))):
            self.assertEqual(self.found(text, self.known(things)), found)

    def test_doubled(self):
        text = "1"
        for many in range(1, 12):
            text = f"(call p {text})"
            # the kind of p there: itself, what it takes, and what it gives
            if 1 + (2 ** many - 1) + (2 ** (many + 1) - 1) <= 100:
                self.assertEqual(size_of(self.found(text, self.known(1))), 2 ** (many + 1) - 1)
            else:
                self.assertEqual(self.found(text, self.known(1)), (1,) * (many - 6))

    def test_doubled_beyond_all_bounds(self):
        text = "x"
        for _ in range(60):
            text = f"(call p {text})"
        self.assertEqual(self.found(f"(fun x {text})", self.known(1)), (0,) + (1,) * 54)
        self.assertIs(can_be(term_in(f"(fun x {text})"), self.known(1), places_of(term_in(f"(fun x {text})"))), False)

    def test_deep(self):
        self.assertEqual(self.found("k", [("k", deep(16))]), deep(16))
        self.assertEqual(self.found("k", [("k", deep(17))]), ())
        self.assertEqual(self.found("k", [("k", deep(24))]), ())
        self.assertEqual(self.found("(rec a k)", [("k", deep(15))]), deep(16))
        self.assertEqual(self.found("(rec a k)", [("k", deep(16))]), ())
        self.assertEqual(self.found("(call (fun x 1) k)", [("k", deep(15))]), ("num",))
        self.assertEqual(self.found("(call (fun x 1) k)", [("k", deep(16))]), ())
        self.assertEqual(self.found("(get (rec a k) a)", [("k", deep(15))]), deep(15))
        self.assertEqual(self.found("(get (rec a k) a)", [("k", deep(16))]), (0,))
        for many in (15, 16, 17):
            text = "(fun x " * many + "1" + ")" * many
            expected = () if many > 15 else told_funs(many)
            self.assertEqual(self.found(text, []), (0,) * (many - 16) if many > 15 else expected)


class KnownBounds(unittest.TestCase):
    """What is known may be too great by itself, with numbers in it or without."""

    def test_deep(self):
        for levels in range(13, 20):
            for bottom in (("num",), ("any", 0), ("own", "m", "t"), ("rec", (), None), ("rec", (), 0), ("fun", ("any", 0), ("num",))):
                for wrap in (lambda kind: ("rec", (("a", kind),), None), lambda kind: ("fun", ("any", 5), kind), lambda kind: ("sum", (("a", kind), ("b", ("num",))), None),
                             lambda kind: ("fun", kind, ("num",)), lambda kind: ("rec", (("a", kind),), 7)):
                    kind = bottom
                    while plain.deep_of(kind) < levels:
                        kind = wrap(kind)
                    self.looked_at(plain.told(kind), levels <= 16)

    def test_wide(self):
        for things in (98, 99, 100, 101, 102, 130):
            closed = wide(things)
            self.assertEqual(plain.size_of(closed), things)
            self.looked_at(closed, things <= 100)
            self.looked_at(plain.told(("rec", closed[1], 3)), things <= 100)

    def looked_at(self, kind, fits):
        """Looks at a name of which that is known: alone, in a rec, called, where a rec of its label is asked for."""
        known = [("x", kind)]
        for text in ("x", "(rec a x)", "(call (fun y 1) x)", "(get x a)", "(call x 1)", "(rec a 1 b (get (rec a 1 b x) a))", "(under 1 2 x x)", "(fun y x)"):
            term = term_in(text)
            word, what = plain.kind_of(term, known)
            if word == "kind":
                self.assertEqual(kind_of(term, known), what, text)
            else:
                with self.assertRaises(Clash) as caught:
                    kind_of(term, known)
                self.assertEqual(caught.exception.what, what, text)
            if text == "x":
                self.assertEqual(word == "kind", fits)


def told_funs(many):
    kind = ("num",)
    for _ in range(many):
        kind = ("fun", ("any", 0), kind)
    numbers = itertools.count()

    def anew(part):
        return ("fun", ("any", next(numbers)), anew(part[2])) if part[0] == "fun" else part
    return anew(kind)


class CanBe(unittest.TestCase):
    def asked(self, text, places, *pairs, own=None):
        return can_be(term_in(text), known_of(*pairs), places, own=own)

    def test_none_all_and_some(self):
        text = "(add (rec) 1)"
        self.assertIs(self.asked(text, []), True)
        self.assertIs(self.asked(text, [(0,), (1,), ()]), False)
        self.assertIs(self.asked(text, [(0,), ()]), False)
        self.assertIs(self.asked(text, [(), (0,)]), False)
        self.assertIs(self.asked(text, [(1,), ()]), True)
        self.assertIs(self.asked(text, [(0,), (1,)]), True)
        self.assertIs(self.asked(text, ((0,), ())), False)
        self.assertIs(self.asked(text, ()), True)
        self.assertIs(self.asked("(call inc (get r a))", [(1, 0), (1,), (0,), ()], ("inc", "(fun num num)"), ("r", "(rec a num)")), True)
        self.assertIs(self.asked("(call inc (get r a))", [(1, 0), (1,), (0,), ()], ("inc", "(fun num num)"), ("r", "(rec)")), False)
        self.assertIs(self.asked("(call inc (get r a))", [(1,), (0,), ()], ("inc", "(fun num num)"), ("r", "(rec)")), True)

    def test_a_bound_name_without_the_rule_around(self):
        text = "(fun x (rec a (add x 1) b (get x a)))"
        names = [(0, 0, 0), (0, 1, 0)]
        self.assertIs(self.asked(text, names + [(0, 0), (0, 1)]), False)
        self.assertIs(self.asked(text, names + [(0, 0)]), True)
        self.assertIs(self.asked(text, names[:1] + [(0, 0), (0, 1)]), True)
        self.assertIs(self.asked("(case (tag a 1) a x (get x l))", [(0, 0), (0,), (1, 0), (1,)]), True)
        self.assertIs(self.asked("(case (tag a 1) a x (get x l))", [(0, 0), (0,), (1, 0), ()]), True)
        self.assertIs(self.asked("(case (tag a 1) a x (get x l))", [(0, 0), (0,), (1, 0), (1,), ()]), False)

    def test_the_rule_of_own_needs_the_kind_of_the_whole_alone(self):
        text = "(rec a (add f 1) b (get f a))"
        self.assertIs(self.asked(text, [(0, 0), (0,), (1, 0), (1,)], own="f"), False)
        self.assertIs(self.asked(text, [(0, 0), (0,), (1,)], own="f"), True)
        self.assertIs(self.asked(text, [(0, 0), (0,), (1, 0), (1,)], ("f", "num"), own="f"), False)
        self.assertIs(self.asked(text, [(0, 0), (0,), ()], own="f"), False)
        self.assertIs(self.asked(text, [(0, 0), ()], own="f"), True)
        self.assertIs(self.asked("(fun x (add f 1))", [(0, 0), (0,), (0, 1)], own="f"), True)
        self.assertIs(self.asked("(fun x (add f 1))", [(0, 0), (0,), ()], own="f"), False)

    def test_bounds_hold_at_any_place(self):
        known = [("k", wide(101)), ("d", deep(17))]
        self.assertIs(can_be(term_in("(call k d)"), known, []), True)
        self.assertIs(can_be(term_in("(call k d)"), known, [()]), True)
        self.assertIs(can_be(term_in("(call k d)"), known, [(0,)]), False)
        self.assertIs(can_be(term_in("(call k d)"), known, [(1,)]), False)
        known = [("k", wide(99)), ("d", deep(16))]
        self.assertIs(can_be(term_in("(call ? k)"), known, [(1,)]), True)
        # the place without a rule is too great by the call
        self.assertIs(can_be(term_in("(call ? k)"), known, [(1,), ()]), False)
        self.assertIs(can_be(term_in("(call ? d)"), known, [(1,), ()]), False)


class AgainstPlain(unittest.TestCase):
    def known(self, chance):
        pairs = list(KNOWN[:5]) + [("f", "(fun *0 *0)"), ("g", "(fun (rec a *0 *1) (sum a *0 *2))"), (("m", "f"), "(fun *0 (rec a *0 b *0))"),
                                   (("m", "x"), "num"), (("m", "y"), "(rec a num b m.t)"), (("m", "g"), "(fun (sum a *0 b num *1) *0)")]
        known = known_of(*pairs)
        known.append(("x", chance_kind(chance, 3)))
        if chance.random() < 0.5:
            known.append(("y", chance_kind(chance, 4)))
        return known

    def test_kinds_clashes_and_unknown(self):
        chance = random.Random(18)
        counts = {"kind": 0, "unknown": 0, "clash": 0}
        for _ in range(3000):
            term = chance_term(chance, chance.randint(2, 5), ("x", "y", "f", "g") if chance.random() < 0.3 else ("x", "f"))
            if things_in(term) > 40:
                continue
            known = self.known(chance)
            own = chance.choice((None, "x", "y"))
            expected = plain.kind_of(term, known, own)
            counts[expected[0]] += 1
            try:
                kind = kind_of(term, known, own=own)
                found = ("kind", kind)
                self.assertTrue(is_kind(kind) and told(kind) == kind and size_of(kind) <= 100 and deep_of(kind) <= 16)
            except Unknown as refusal:
                found = ("unknown", refusal.what)
            except Clash as refusal:
                found = ("clash", refusal.what)
            self.assertEqual(found, expected, term_text(term))
        self.assertTrue(min(counts.values()) > 50, counts)

    def test_near_the_bounds(self):
        chance = random.Random(22)
        counts = {"kind": 0, "clash": 0}
        for _ in range(400):
            term = chance_term(chance, chance.randint(2, 4), ("x", "f", "g"))
            known = known_of(("f", "(fun *0 (rec a *0 b *0))"), (("m", "f"), "(fun *0 (fun *1 (rec a *1 b *0)))"), ("g", "*0"))
            known += [("x", chance.choice((wide, deep))(chance.randint(10, 50))), (("m", "x"), deep(chance.randint(9, 17))),
                      (("m", "g"), ("any", 0))]
            expected = plain.kind_of(term, known)
            counts[expected[0]] += 1
            try:
                found = ("kind", kind_of(term, known))
            except Clash as refusal:
                found = ("clash", refusal.what)
            self.assertEqual(found, expected, term_text(term))
        self.assertTrue(min(counts.values()) > 50, counts)

    def test_some_places(self):
        chance = random.Random(19)
        counts = {True: 0, False: 0}
        for _ in range(1500):
            term = chance_term(chance, chance.randint(2, 5))
            if things_in(term) > 30:
                continue
            known = self.known(chance) + [("y", ("any", 0))]
            known = list({what: (what, kind) for what, kind in known}.values())
            places = [place for place in places_of(term) if chance.random() < 0.7]
            expected = plain.Look(term, known, "g").kinds(places) is not None
            counts[expected] += 1
            self.assertIs(can_be(term, known, places, own="g"), expected, term_text(term))
            self.assertIs(can_be(term, known, places[::-1], own="g"), expected)
        self.assertTrue(min(counts.values()) > 100, counts)

    def test_all_places_as_kind_of(self):
        chance = random.Random(20)
        for _ in range(300):
            term = chance_term(chance, 4, ("x", "f"))
            known = self.known(chance)
            try:
                kind_of(term, known)
                expected = True
            except Clash as refusal:
                expected = False
                places = places_of(term)
                many = places.index(refusal.what)
                self.assertIs(can_be(term, known, places[:many]), True)
                self.assertIs(can_be(term, known, places[:many + 1]), False)
            self.assertIs(can_be(term, known, places_of(term)), expected)

    def test_less_known_is_as_open(self):
        chance = random.Random(21)
        for _ in range(300):
            term = chance_term(chance, 4, ("x", "f"))
            known = [pair for pair in self.known(chance) if pair[0] != "x"]
            try:
                one = kind_of(term, known + [("x", ("num",))])
            except Clash:
                continue
            self.assertTrue(comes_to(kind_of(term, known + [("x", ("any", 0))]), one))


class Answers(unittest.TestCase):
    def test_known_as_a_list_and_as_a_tuple(self):
        known = known_of(*KNOWN)
        term = term_in("(call p (call inc one))")
        self.assertEqual(kind_of(term, known), kind_of(term, tuple(known)))
        self.assertIs(can_be(term, tuple(known), places_of(term)), True)
        self.assertEqual(kind_of(term, known[::-1]), kind_of(term, known))

    def test_nothing_is_changed(self):
        known = known_of(*KNOWN)
        term = term_in("(case (tag a (call keep ?)) a x (put x a (call i 1)))")
        places = places_of(term)
        kept = copy.deepcopy((term, known, places))
        first = kind_of(term, known)
        can_be(term, known, places)
        self.assertEqual(kind_of(term, known), first)
        self.assertEqual((term, known, places), kept)

    def test_own_by_its_name_alone(self):
        with self.assertRaises(TypeError):
            kind_of(("hole",), [], "f")
        with self.assertRaises(TypeError):
            can_be(("hole",), [], [], "f")


if __name__ == "__main__":
    unittest.main()
