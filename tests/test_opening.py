import copy
import random
import unittest

from sealedkinds.kinds import is_kind, told
from sealedkinds.kindtext import kind_in, kind_text
from sealedkinds.opening import comes_to, meet, put_for
from tests import plain
from tests.things import chance_kind

NUM = ("num",)

COME = (
    ("num", "num", []), ("m.t", "m.t", []), ("(rec)", "(rec)", []), ("*0", "*0", [(0, ("any", 0))]),
    ("*3", "num", [(3, NUM)]), ("*3", "(rec *3)", [(3, ("rec", (), 3))]), ("*0", "m.t", [(0, ("own", "m", "t"))]),
    ("(fun *0 *0)", "(fun num num)", [(0, NUM)]), ("(fun *0 *1)", "(fun *1 *1)", [(0, ("any", 1)), (1, ("any", 1))]),
    ("(fun *9 *2)", "(fun *2 *9)", [(2, ("any", 9)), (9, ("any", 2))]),
    ("(fun *0 (fun *1 *0))", "(fun *1 (fun (rec) *1))", [(0, ("any", 1)), (1, ("rec", (), None))]),
    ("(fun *0 *0)", "(fun (fun *0 *1) (fun *0 *1))", [(0, ("fun", ("any", 0), ("any", 1)))]),
    # rests that take pairs, and that end
    ("(rec *0)", "(rec)", [(0, ((), None))]), ("(rec *0)", "(rec *0)", [(0, ((), 0))]),
    ("(rec *0)", "(rec a num)", [(0, ((("a", NUM),), None))]),
    ("(rec b num *0)", "(rec a num b num c m.t *5)", [(0, ((("a", NUM), ("c", ("own", "m", "t"))), 5))]),
    ("(rec b *1 *0)", "(rec a num b *0)", [(0, ((("a", NUM),), None)), (1, ("any", 0))]),
    ("(sum a *0 *7)", "(sum a (rec *7))", [(0, ("rec", (), 7)), (7, ((), None))]),
    ("(sum a num *7)", "(sum a num b num *8)", [(7, ((("b", NUM),), 8))]),
    ("(fun (rec a num *0) (rec a *1 *0))", "(fun (rec a num b num) (rec a m.t b num))",
     [(0, ((("b", NUM),), None)), (1, ("own", "m", "t"))]),
    ("(fun (rec a num *0) (rec a *1 *0))", "(fun (rec a num *1) (rec a *0 *1))", [(0, ((), 1)), (1, ("any", 0))]),
)

DONT_COME = (
    ("num", "*0"), ("num", "m.t"), ("m.t", "num"), ("m.t", "m.s"), ("m.t", "k.t"), ("num", "(rec)"), ("(rec)", "num"),
    ("(fun num num)", "num"), ("(fun num num)", "(fun num *0)"), ("(fun *0 *0)", "(fun *0 *1)"),
    ("(fun *0 *0)", "(fun num (rec))"), ("(fun *0 *0)", "(fun (fun *0 *1) (fun *1 *0))"), ("(rec)", "(rec *0)"),
    ("(rec)", "(rec a num)"), ("(rec a num)", "(rec)"), ("(rec a num *0)", "(rec b num)"), ("(rec a num *0)", "(rec *0)"),
    ("(rec a num)", "(rec a num b num)"), ("(rec a num b num)", "(rec a num)"), ("(rec a num)", "(rec a num *0)"),
    ("(rec a num *0)", "(rec a m.t)"), ("(rec a num *0)", "(sum a num *0)"), ("(sum a num *0)", "(sum b num *0)"),
    ("(sum a num b num *0)", "(sum a num)"), ("(sum a num)", "(sum a num *0)"), ("(rec a *0)", "(sum a num)"),
    # a rest would need a label behind which it stands already, or has to be two things
    ("(rec a num *0)", "(rec b num *1)"), ("(fun (rec a num *0) (rec a num *0))", "(fun (rec a num b num) (rec a num))"),
    ("(fun (rec a num *0) (rec a num *0))", "(fun (rec a num *1) (rec a num *2))"),
    ("(fun (rec a num *0) (rec a num *0))", "(fun (rec a num) (rec a num *0))"),
    ("(fun (rec *0) (rec *0))", "(fun (rec a num) (rec a m.t))"), ("(fun (rec *0) (rec *0))", "(fun (rec a num) (rec b num))"),
)

MEETS = (
    ("num", "num", "num"), ("num", "*7", "num"), ("*7", "*7", "*0"), ("*1", "(fun *1 *1)", "(fun *0 *0)"), ("num", "m.t", None),
    ("m.t", "m.t", "m.t"), ("m.t", "m.s", None), ("(fun *0 num)", "(fun m.t *0)", "(fun m.t num)"), ("num", "(rec)", None),
    # closed and open
    ("(rec)", "(rec)", "(rec)"), ("(rec)", "(rec a num)", None), ("(rec a num)", "(rec a *0)", "(rec a num)"),
    ("(rec *0)", "(rec)", "(rec)"), ("(rec a num *0)", "(rec)", None), ("(rec a num *0)", "(rec a *0 b *0)", "(rec a num b num)"),
    ("(rec a *0 *1)", "(rec b *0 *1)", "(rec a *0 b *1 *2)"), ("(rec b *0 *1)", "(rec a *0 *1)", "(rec a *0 b *1 *2)"),
    ("(rec a num *0)", "(rec a num *0)", "(rec a num *0)"), ("(rec a num *1)", "(rec b num)", None),
    ("(sum a num *0)", "(sum b num *0)", "(sum a num b num *0)"), ("(sum a num *0)", "(sum b num)", None),
    ("(sum a *0)", "(sum a num *0)", "(sum a num)"), ("(sum a num)", "(rec a num)", None), ("(rec *0)", "(sum a num *0)", None),
    # a rest shared by two
    ("(fun (rec a *1 *0) (rec a *2 *0))", "(fun (rec b num *0) (rec b *1 *2))", "(fun (rec a *0 b num *1) (rec a *2 b num *1))"),
    ("(fun (rec *0) (rec *0))", "(fun (rec a num *1) (rec b m.t *2))", "(fun (rec a num b m.t *0) (rec a num b m.t *0))"),
    ("(fun (rec *0) (rec *0))", "(fun (rec a num *1) (rec b m.t))", None),
    ("(fun (rec *0) (rec *0))", "(fun (rec a num b *1) (rec b m.t *2))", "(fun (rec a num b m.t) (rec a num b m.t))"),
    ("(fun (rec *0) (rec *0))", "(fun (rec a num *1) (rec a m.t *2))", None),
    ("(fun (sum a num *0) (sum a m.t *0))", "(fun (sum a num b num) *0)", "(fun (sum a num b num) (sum a m.t b num))"),
    # the same numbers in both are apart
    ("(fun *0 num)", "(fun num *0)", "(fun num num)"), ("(fun *0 m.t)", "(fun num *0)", "(fun num m.t)"),
    ("(fun *0 *1)", "(fun *1 *0)", "(fun *0 *1)"), ("(fun *0 *0)", "(fun *1 *0)", "(fun *0 *0)"),
    ("(fun *0 (rec *1))", "(fun (rec *0) (rec *1))", "(fun (rec *0) (rec *1))"),
    # a number within what it would be
    ("(fun *0 *0)", "(fun *0 (fun *0 num))", None), ("(fun *0 *0)", "(fun *0 (rec a *0))", None),
    ("(fun *0 *0)", "(fun *1 (fun *0 num))", "(fun (fun *0 num) (fun *0 num))"),
    ("(fun *0 (fun *1 *0))", "(fun (rec a *0) (fun *0 *1))", "(fun (rec a *0) (fun *0 (rec a *0)))"),
    ("(fun *0 (fun *1 (fun *0 *1)))", "(fun (rec a *0) (fun (rec b *1) (fun *1 *0)))", None),
    ("(fun (rec *0) (rec *0))", "(fun (rec a *1) (rec a (rec b *1)))", None), ("(rec a *0)", "(rec a (fun *0 *0))", "(rec a (fun *0 *0))"),
    # numbers from nought on as they first come
    ("(rec a *9 b *4)", "(rec a *1 b *0)", "(rec a *0 b *1)"), ("(fun *5 (rec z *3 *8))", "*2", "(fun *0 (rec z *1 *2))"),
    ("(rec b *0 *5)", "(rec a (rec *6) *5)", "(rec a (rec *0) b *1 *2)"),
)


class ComesTo(unittest.TestCase):
    def test_kinds_that_do(self):
        for kind, other, puts in COME:
            with self.subTest(kind + " " + other):
                self.assertEqual(put_for(kind_in(kind), kind_in(other)), puts)
                self.assertIs(comes_to(kind_in(kind), kind_in(other)), True)

    def test_kinds_that_dont(self):
        for kind, other in DONT_COME:
            with self.subTest(kind + " " + other):
                self.assertIsNone(put_for(kind_in(kind), kind_in(other)))
                self.assertIs(comes_to(kind_in(kind), kind_in(other)), False)

    def test_a_kind_to_itself_and_to_what_it_is_told(self):
        chance = random.Random(9)
        for _ in range(300):
            kind = chance_kind(chance, 5)
            self.assertIs(comes_to(kind, kind), True)
            numbers = {n: way for way, n in plain.numbers_of(kind)}
            self.assertEqual(put_for(kind, kind), [
                (n, ("any", n) if numbers[n] == "any" else ((), n)) for n in sorted(numbers)])
            self.assertTrue(comes_to(kind, told(kind)) and comes_to(told(kind), kind))

    def test_what_is_put_makes_the_other_one(self):
        chance = random.Random(10)
        many = 0
        for _ in range(20000):
            kind, other = chance_kind(chance, 3, numbers=2), chance_kind(chance, 3, numbers=2)
            puts = put_for(kind, other)
            self.assertIs(comes_to(kind, other), puts is not None)
            if puts is not None:
                many += 1
                self.assertEqual([n for n, _ in puts], sorted({n for _, n in plain.numbers_of(kind)}))
                self.assertEqual(plain.put_all(kind, dict(puts)), other)
        self.assertGreater(many, 500)

    def test_what_is_made_by_putting_is_come_to(self):
        chance = random.Random(11)
        for _ in range(2000):
            kind = chance_kind(chance, 4)
            puts = {}
            fresh = iter(range(100, 1000))
            for way, n in plain.numbers_of(kind):
                whole = chance_kind(chance, 2, numbers=0)
                more = (("x", whole), ("y", ("any", next(fresh)))) if chance.random() < 0.5 else ()
                puts[n] = whole if way == "any" else (more, chance.choice((None, next(fresh))))
            other = plain.put_all(kind, puts)
            self.assertTrue(is_kind(other))
            self.assertEqual(put_for(kind, other), sorted(puts.items()))

    def test_changing_what_is_told(self):
        kind, other = kind_in("(fun *0 *1)"), kind_in("(fun num num)")
        first = put_for(kind, other)
        first.clear()
        self.assertEqual(put_for(kind, other), [(0, NUM), (1, NUM)])


class Meet(unittest.TestCase):
    def test_either_way_about(self):
        for kind, other, met in MEETS:
            with self.subTest(kind + " " + other):
                expected = None if met is None else kind_in(met)
                self.assertEqual(meet(kind_in(kind), kind_in(other)), expected)
                self.assertEqual(meet(kind_in(other), kind_in(kind)), expected)

    def test_against_plain(self):
        chance = random.Random(12)
        many = 0
        for _ in range(15000):
            kind, other = chance_kind(chance, 4, numbers=3), chance_kind(chance, 4, numbers=3)
            if kind[0] in ("any", "num", "own") and chance.random() < 0.9:
                continue
            met = meet(kind, other)
            self.assertEqual(met, plain.meet(kind, other), (kind_text(kind), kind_text(other)))
            self.assertEqual(met, meet(other, kind))
            if met is not None:
                many += 1
                self.assertEqual(met, told(met))
                self.assertTrue(is_kind(met) and comes_to(kind, met) and comes_to(other, met))
        self.assertGreater(many, 1000)

    def test_comes_to_each_other_such_one(self):
        chance = random.Random(13)
        for _ in range(1500):
            whole = chance_kind(chance, 4, numbers=0)
            one, other = opener(chance, whole), opener(chance, whole)
            self.assertTrue(comes_to(one, whole) and comes_to(other, whole))
            self.assertTrue(comes_to(meet(one, other), whole))

    def test_many_times_doubled(self):
        doubled = "(rec a *1 b *2 c *3 d *4 e (fun *0 *0) f (fun *1 *1) g (fun *2 *2) h (fun *3 *3))"
        shared = "(rec a *1 b *2 c *3 d *4 e *1 f *2 g *3 h *4)"
        met = meet(kind_in(doubled), kind_in(shared))
        self.assertEqual(met, plain.meet(kind_in(doubled), kind_in(shared)))

    def test_nothing_is_changed(self):
        kind, other = kind_in("(fun (rec a *0 *1) *0)"), kind_in("(fun (rec b num *0) *1)")
        kept = copy.deepcopy((kind, other))
        first = meet(kind, other)
        self.assertEqual(meet(kind, other), first)
        put_for(kind, first)
        self.assertEqual((kind, other), kept)


def opener(chance, kind, numbers=None):
    """A kind that comes to that one, which has no numbers."""
    numbers = {} if numbers is None else numbers
    if chance.random() < 0.25:
        return ("any", numbers.setdefault(kind, len(numbers)))
    if kind[0] == "fun":
        return ("fun", opener(chance, kind[1], numbers), opener(chance, kind[2], numbers))
    if kind[0] in ("rec", "sum"):
        pairs = [(label, opener(chance, part, numbers)) for label, part in kind[1]]
        few = [pair for pair in pairs if chance.random() < 0.6]
        if few and chance.random() < 0.6:
            left = tuple(pair for pair in kind[1] if pair[0] not in dict(few))
            key = (kind[0], tuple(label for label, _ in few), left)
            return (kind[0], tuple(few), numbers.setdefault(key, len(numbers)))
        return (kind[0], tuple(pairs), None)
    return kind


if __name__ == "__main__":
    unittest.main()
