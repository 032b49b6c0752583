import copy
import random
import unittest

from sealedkinds.kinds import deep_of, is_kind, opened, owns_in, size_of, told
from tests import plain
from tests.things import chance_kind, chance_thing, deep_things, spoiled

NUM = ("num",)


def any_of(n):
    return ("any", n)


def rec(pairs, rest=None):
    return ("rec", tuple(sorted(pairs.items())), rest)


def tags(pairs, rest=None):
    return ("sum", tuple(sorted(pairs.items())), rest)


KINDS = (
    NUM, any_of(0), any_of(7), any_of(10 ** 40), ("own", "m", "t"), ("own", "abcdefgh", "z"), ("own", "num", "num"),
    ("fun", NUM, any_of(0)), ("fun", any_of(3), any_of(3)), rec({}), rec({}, 0), rec({"a": NUM}), rec({"a": NUM}, 4),
    rec({"a": any_of(0), "b": any_of(0)}, 1), tags({"a": NUM}), tags({"a": NUM}, 0), tags({"a": NUM, "abcdefgh": NUM}),
    ("fun", rec({"a": NUM}, 0), rec({"a": any_of(1)}, 0)), ("fun", tags({"b": NUM}, 2), tags({"b": NUM}, 2)),
    ("fun", rec({}, 0), rec({}, 0)), rec({"a": rec({"a": NUM}, 0)}, 0), rec({"z": rec({"y": tags({"x": NUM})})}),
    rec({"ab": NUM, "abc": NUM, "b": NUM}),
)

NO_KINDS = (
    # parts too many and too few
    (), ("num", 0), ("num", NUM), ("any",), ("any", 0, 0), ("own",), ("own", "m"), ("own", "m", "t", "t"),
    ("fun",), ("fun", NUM), ("fun", NUM, NUM, NUM), ("rec",), ("rec", ()), ("rec", (), None, None), ("sum",),
    ("sum", (("a", NUM),)), ("sum", (("a", NUM),), None, None), ("rec", (("a",),), None),
    ("rec", (("a", NUM, NUM),), None), ("rec", ((),), None), ("sum", (("a", NUM, NUM),), None),
    # lists for tuples
    ["num"], ["any", 0], ["own", "m", "t"], ["fun", NUM, NUM], ("fun", ["num"], NUM), ("fun", NUM, ["num"]),
    ["rec", (), None], ("rec", [], None), ("rec", [("a", NUM)], None), ("rec", (["a", NUM],), None),
    ("rec", (("a", ["num"]),), None), ("sum", [("a", NUM)], None), ("rec", (), [0]),
    # labels that don't rise, and twice
    ("rec", (("b", NUM), ("a", NUM)), None), ("rec", (("a", NUM), ("a", NUM)), None),
    ("sum", (("b", NUM), ("a", NUM)), None), ("sum", (("a", NUM), ("a", NUM)), None),
    ("rec", (("a", NUM), ("c", NUM), ("b", NUM)), None), ("rec", (("b", NUM), ("ab", NUM)), 0),
    # names
    ("own", "abcdefghi", "t"), ("own", "m", "abcdefghi"), ("own", "", "t"), ("own", "m", ""), ("own", 0, "t"),
    ("own", "m", None), ("own", "m", ("t",)), ("own", "M", "t"), ("own", "m", "t "), ("own", "m", "\u00e4"),
    ("own", "m", "t1"), ("own", "m\n", "t"), ("own", "m", "\u0131"), ("rec", (("abcdefghi", NUM),), None),
    ("rec", (("", NUM),), None), ("rec", ((0, NUM),), None), ("rec", ((None, NUM),), None), ("sum", (("A", NUM),), None),
    ("rec", (("a", NUM), (0, NUM)), None), ("rec", ((("a",), NUM),), None), ("rec", ((["a"], NUM),), None),
    # numbers
    ("any", -1), ("any", True), ("any", False), ("any", None), ("any", "0"), ("any", (0,)), ("rec", (), -1),
    ("rec", (), True), ("rec", (), False), ("rec", (), "0"), ("sum", (("a", NUM),), -1), ("sum", (("a", NUM),), True),
    # a sum without pairs, and no pairs
    ("sum", (), None), ("sum", (), 0), ("rec", None, None), ("rec", "ab", None), ("rec", ("ab",), None), ("rec", 0, None),
    # a number in more ways than one
    ("fun", any_of(0), rec({}, 0)), ("fun", rec({}, 0), any_of(0)), rec({"a": any_of(0)}, 0), tags({"a": any_of(0)}, 0),
    ("fun", rec({"a": NUM}, 0), tags({"a": NUM}, 0)), ("fun", tags({"a": NUM}, 0), rec({"a": NUM}, 0)),
    ("fun", rec({"a": NUM}, 0), rec({"b": NUM}, 0)), ("fun", rec({}, 0), rec({"b": NUM}, 0)),
    ("fun", tags({"a": NUM}, 0), tags({"a": NUM, "b": NUM}, 0)), rec({"a": rec({"b": NUM}, 0)}, 0),
    # no tuples, other heads
    None, True, False, 0, 1, -1, "", "num", "any", [], ("nums",), ("",), (None,), (0,), (("num",),), (["num"],),
    ("fun", NUM, None), ("fun", NUM, "num"), ("fun", "num", NUM), ("rec", (("a", "num"),), None), ("Num",), ("name", "x"),
)


class IsKind(unittest.TestCase):
    def test_each_sort(self):
        for kind in KINDS:
            self.assertIs(is_kind(kind), True, kind)

    def test_things_that_are_none(self):
        for thing in NO_KINDS:
            self.assertIs(is_kind(thing), False, thing)
            self.assertIs(is_kind(("fun", NUM, thing)), False, thing)
            self.assertIs(is_kind(rec({"a": thing})), False, thing)

    def test_one_thing_otherwise(self):
        for kind in KINDS:
            for thing in spoiled(kind):
                self.assertIs(is_kind(thing), plain.is_kind(thing), thing)

    def test_things_of_any_make(self):
        chance = random.Random(4)
        for _ in range(3000):
            thing = chance_thing(chance, 6)
            self.assertIs(is_kind(thing), plain.is_kind(thing), thing)
            self.assertIs(is_kind(("fun", thing, thing)), plain.is_kind(("fun", thing, thing)), thing)
        for thing in deep_things(50):
            self.assertIs(is_kind(thing), False)

    def test_kinds_fifty_deep(self):
        kind = NUM
        for _ in range(16):
            kind = rec({"a": kind}, 0)
        self.assertIs(is_kind(kind), True)
        for _ in range(30):
            kind = ("fun", kind, any_of(1))
        self.assertIs(is_kind(kind), True)
        self.assertIs(is_kind(("fun", kind, any_of(0))), False)

    def test_chance_kinds(self):
        chance = random.Random(5)
        for _ in range(500):
            self.assertIs(is_kind(chance_kind(chance, 5)), True)


class Sizes(unittest.TestCase):
    def test_size_and_depth(self):
        for kind, size, deep in (
            (NUM, 1, 1), (any_of(5), 1, 1), (("own", "m", "t"), 1, 1), (("fun", NUM, NUM), 3, 2), (rec({}), 1, 1),
            (rec({}, 9), 1, 1), (rec({"a": NUM}, 9), 2, 2), (rec({"a": NUM, "b": ("fun", NUM, rec({}))}), 5, 3),
            (tags({"a": tags({"b": tags({"c": NUM})})}, 0), 4, 4), (("fun", ("fun", ("fun", NUM, NUM), NUM), NUM), 7, 4),
            (("fun", NUM, ("fun", NUM, ("fun", NUM, NUM))), 7, 4),
        ):
            self.assertEqual(size_of(kind), size)
            self.assertEqual(deep_of(kind), deep)

    def test_against_plain(self):
        chance = random.Random(6)
        for _ in range(500):
            kind = chance_kind(chance, 6)
            self.assertEqual(size_of(kind), plain.size_of(kind))
            self.assertEqual(deep_of(kind), plain.deep_of(kind))


class Told(unittest.TestCase):
    def test_numbers_come_from_nought(self):
        self.assertEqual(told(any_of(7)), any_of(0))
        self.assertEqual(told(("fun", any_of(2), any_of(1))), ("fun", any_of(0), any_of(1)))
        self.assertEqual(told(("fun", any_of(9 ** 30), any_of(9 ** 30))), ("fun", any_of(0), any_of(0)))
        self.assertEqual(told(("fun", any_of(1), ("fun", any_of(0), any_of(1)))),
                         ("fun", any_of(0), ("fun", any_of(1), any_of(0))))

    def test_pairs_in_order_then_the_rest(self):
        self.assertEqual(told(rec({"a": any_of(5), "b": any_of(2)}, 0)), rec({"a": any_of(0), "b": any_of(1)}, 2))
        self.assertEqual(told(rec({"a": rec({"b": any_of(8)}, 3), "c": any_of(0)}, 1)),
                         rec({"a": rec({"b": any_of(0)}, 1), "c": any_of(2)}, 3))
        self.assertEqual(told(("fun", tags({"a": NUM}, 4), tags({"a": any_of(1)}, 4))),
                         ("fun", tags({"a": NUM}, 0), tags({"a": any_of(1)}, 0)))
        self.assertEqual(told(rec({}, 12)), rec({}, 0))

    def test_without_numbers_and_told_again(self):
        for kind in KINDS:
            once = told(kind)
            self.assertEqual(once, plain.told(kind))
            self.assertEqual(told(once), once)
            self.assertTrue(is_kind(once))
        kind = ("fun", ("own", "m", "t"), tags({"a": NUM}))
        self.assertEqual(told(kind), kind)

    def test_against_plain(self):
        chance = random.Random(7)
        for _ in range(500):
            kind = chance_kind(chance, 6, numbers=20)
            self.assertEqual(told(kind), plain.told(kind))
            self.assertEqual(told(told(kind)), told(kind))


class OwnsIn(unittest.TestCase):
    def test_rising_each_once(self):
        self.assertEqual(owns_in(NUM), [])
        self.assertEqual(owns_in(("own", "m", "t")), [("m", "t")])
        kind = ("fun", ("own", "m", "t"), rec({"a": ("own", "k", "z"), "b": tags({"c": ("own", "m", "s")}, 0)}))
        self.assertEqual(owns_in(kind), [("k", "z"), ("m", "s"), ("m", "t")])
        self.assertEqual(owns_in(("fun", kind, kind)), [("k", "z"), ("m", "s"), ("m", "t")])
        self.assertEqual(owns_in(("fun", ("own", "b", "a"), ("own", "a", "b"))), [("a", "b"), ("b", "a")])

    def test_changing_what_is_told(self):
        kind = ("fun", ("own", "m", "t"), NUM)
        first = owns_in(kind)
        first.append(("m", "u"))
        first[0] = None
        self.assertEqual(owns_in(kind), [("m", "t")])


class Opened(unittest.TestCase):
    def test_none_one_and_several(self):
        own = ("own", "m", "t")
        kind = ("fun", own, rec({"a": own, "b": tags({"c": ("own", "m", "s"), "d": ("own", "k", "t")}, 1)}, 0))
        self.assertEqual(opened(kind, []), kind)
        self.assertEqual(opened(own, [("m", "t", NUM)]), NUM)
        self.assertEqual(opened(kind, [("m", "t", NUM)]),
                         ("fun", NUM, rec({"a": NUM, "b": tags({"c": ("own", "m", "s"), "d": ("own", "k", "t")}, 1)}, 0)))
        opens = [("m", "t", rec({"z": NUM})), ("k", "t", NUM), ("m", "s", ("fun", NUM, NUM))]
        self.assertEqual(opened(kind, opens), ("fun", rec({"z": NUM}), rec(
            {"a": rec({"z": NUM}), "b": tags({"c": ("fun", NUM, NUM), "d": NUM}, 1)}, 0)))
        self.assertEqual(opened(kind, opens[::-1]), opened(kind, opens))

    def test_in_what_is_put_nothing_is_opened(self):
        own = ("own", "m", "t")
        self.assertEqual(opened(own, [("m", "t", ("fun", own, own))]), ("fun", own, own))
        opens = [("m", "t", ("own", "m", "s")), ("m", "s", own)]
        self.assertEqual(opened(("fun", own, ("own", "m", "s")), opens), ("fun", ("own", "m", "s"), own))
        self.assertEqual(opened(("fun", own, ("own", "m", "s")), opens[::-1]), ("fun", ("own", "m", "s"), own))

    def test_what_stands_nowhere(self):
        for kind in (NUM, any_of(3), rec({}, 0), ("own", "m", "t"), ("fun", ("own", "t", "m"), rec({"m": ("own", "t", "t")}))):
            self.assertEqual(opened(kind, [("m", "s", NUM), ("k", "t", NUM), ("s", "m", NUM)]), kind)

    def test_numbers_stay(self):
        kind = ("fun", any_of(7), rec({"a": ("own", "m", "t"), "b": any_of(2)}, 9))
        self.assertEqual(opened(kind, [("m", "t", NUM)]), ("fun", any_of(7), rec({"a": NUM, "b": any_of(2)}, 9)))

    def test_a_tuple_for_the_list_and_nothing_changed(self):
        opens = [("m", "t", NUM), ("k", "s", rec({}))]
        kept = copy.deepcopy(opens)
        kind = ("fun", ("own", "m", "t"), ("own", "k", "s"))
        self.assertEqual(opened(kind, tuple(opens)), ("fun", NUM, rec({})))
        self.assertEqual(opened(kind, opens), ("fun", NUM, rec({})))
        self.assertEqual(opens, kept)


class Great(unittest.TestCase):
    def test_kinds_of_great_depth(self):
        kind = any_of(9)
        for _ in range(5000):
            kind = ("fun", ("own", "m", "t"), kind)
        self.assertIs(is_kind(kind), True)
        self.assertEqual(size_of(kind), 10001)
        self.assertEqual(deep_of(kind), 5001)
        self.assertEqual(owns_in(kind), [("m", "t")])
        self.assertEqual(owns_in(opened(kind, [("m", "t", NUM)])), [])
        self.assertEqual(size_of(told(kind)), 10001)


if __name__ == "__main__":
    unittest.main()
