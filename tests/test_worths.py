import copy
import random
import unittest

from sealedkinds.kindtext import kind_in
from sealedkinds.worths import fits, is_worth
from tests.things import chance_kind, chance_thing, deep_things, spoiled

FUN = ("fun",)
NOTHING = ("rec", ())


def num(n):
    return ("num", n)


def rec(**worths):
    return ("rec", tuple(sorted(worths.items())))


def tag(label, worth):
    return ("tag", label, worth)


RIGHT = (
    num(0), num(7), num(99990), FUN, NOTHING, rec(a=num(1)), rec(a=num(1), b=FUN, c=NOTHING), tag("a", num(1)), tag("abcdefgh", FUN),
    tag("num", tag("rec", tag("fun", NOTHING))), rec(a=rec(a=rec(a=tag("tag", num(5))))), rec(a=tag("b", FUN), ab=num(3)),
)


def plain_is_worth(thing):
    if type(thing) is not tuple:
        return False
    if len(thing) == 2 and thing[0] == "num":
        return type(thing[1]) is int and thing[1] in range(99991)
    if len(thing) == 3 and thing[0] == "tag":
        return is_label(thing[1]) and plain_is_worth(thing[2])
    if len(thing) != 2 or thing[0] != "rec" or type(thing[1]) is not tuple:
        return thing == ("fun",)
    for pair in thing[1]:
        if type(pair) is not tuple or len(pair) != 2 or not is_label(pair[0]) or not plain_is_worth(pair[1]):
            return False
    labels = [label for label, _ in thing[1]]
    return labels == sorted(set(labels))


def is_label(thing):
    return isinstance(thing, str) and 0 < len(thing) < 9 and all("a" <= sign <= "z" for sign in thing)


def plain_fits(kind, worth):
    if kind[0] in ("any", "own"):
        return True
    if kind[0] == "sum":
        return worth[0] == "tag" and any(label == worth[1] and plain_fits(part, worth[2]) for label, part in kind[1])
    if kind[0] != worth[0]:
        return False
    if kind[0] != "rec":
        return True
    more = [label for label, _ in worth[1] if label not in [name for name, _ in kind[1]]]
    if more and kind[2] is None:
        return False
    return all(any(name == label and plain_fits(part, inner) for name, inner in worth[1]) for label, part in kind[1])


def chance_worth(chance, deep):
    head = chance.choice(("num", "fun", "rec", "rec", "tag", "tag") if deep > 1 else ("num", "fun"))
    if head == "num":
        return num(chance.choice((0, 1, 99990)))
    if head == "fun":
        return FUN
    if head == "tag":
        return tag(chance.choice("abcd"), chance_worth(chance, deep - 1))
    return rec(**{label: chance_worth(chance, deep - 1) for label in chance.sample("abcd", chance.randint(0, 3))})


def worth_for(chance, kind):
    """A worth that fits the kind, mostly."""
    if kind[0] in ("any", "own"):
        return chance_worth(chance, 2)
    if kind[0] == "sum":
        label, part = chance.choice(kind[1])
        return tag(label, worth_for(chance, part)) if chance.random() < 0.9 else tag("d", num(1))
    if kind[0] == "rec":
        worths = {label: worth_for(chance, part) for label, part in kind[1] if chance.random() < 0.95}
        if chance.random() < (0.05 if kind[2] is None else 0.5):
            worths.setdefault("zz", num(1))
        return rec(**worths)
    return FUN if kind[0] == "fun" else num(5)


class IsWorth(unittest.TestCase):
    def test_each_sort(self):
        for thing in RIGHT:
            self.assertIs(is_worth(thing), True, thing)

    def test_wrong_ones(self):
        for thing in (
            num(-1), num(99991), num(True), num(False), num(None), num("1"), ("num",), ("num", 1, 1), ["num", 1], ("fun", 1), ("fun", ()), ["fun"],
            "fun", ("fun", "x", ("name", "x")), ("rec",), ("rec", (), None), ("rec", []), ["rec", ()], ("rec", (("a",),)), ("rec", (["a", FUN],)),
            ("rec", (("a", FUN, FUN),)), ("rec", (("b", FUN), ("a", FUN))), ("rec", (("a", FUN), ("a", FUN))), ("rec", [("a", FUN)]),
            ("rec", ("a", FUN)), ("rec", (("A", FUN),)), ("rec", (("", FUN),)), ("rec", (("abcdefghi", FUN),)), ("rec", ((1, FUN),)),
            ("tag", "a"), ("tag", "a", FUN, FUN), ("tag", 1, FUN), ("tag", "abcdefghi", FUN), ("tag", "", FUN), ["tag", "a", FUN], ("tag", "a", ["fun"]),
            ("tag", "a", ("any", 0)), ("sum", "a", FUN), ("any", 0), ("own", "m", "t"), ("hole",), (), [], None, True, False, 0, 7, "", "num", ((),),
        ):
            self.assertIs(is_worth(thing), False, thing)

    def test_one_thing_otherwise(self):
        for thing in RIGHT:
            for other in spoiled(thing):
                self.assertIs(is_worth(other), plain_is_worth(other), other)

    def test_things_of_any_make(self):
        chance = random.Random(90)
        heads = ("num", "fun", "rec", "tag")
        for _ in range(3000):
            thing = chance_thing(chance, 5)
            for made in (thing, (chance.choice(heads), thing), (chance.choice(heads), chance.choice("ab"), thing)):
                self.assertIs(is_worth(made), plain_is_worth(made))
        for thing in deep_things(50):
            self.assertIs(is_worth(thing), False)

    def test_deep_ones(self):
        thing = FUN
        for _ in range(5000):
            thing = tag("a", thing)
        self.assertIs(is_worth(thing), True)


class Fits(unittest.TestCase):
    def test_each_kind_with_each_sort(self):
        worths = {"num": num(3), "fun": FUN, "nothing": NOTHING, "a": rec(a=num(1)), "ab": rec(a=num(1), b=FUN), "b": rec(b=FUN),
                  "tag a": tag("a", num(1)), "tag b": tag("b", FUN), "tag a fun": tag("a", FUN)}
        for text, fitting in (
            ("num", ["num"]), ("*0", list(worths)), ("m.t", list(worths)), ("(fun num num)", ["fun"]), ("(fun (rec) *0)", ["fun"]),
            ("(rec)", ["nothing"]), ("(rec *0)", ["nothing", "a", "ab", "b"]), ("(rec a num)", ["a"]), ("(rec a num *0)", ["a", "ab"]),
            ("(rec a *0)", ["a"]), ("(rec a (fun num num))", []), ("(rec a num b (fun *0 *0))", ["ab"]), ("(rec a num b num)", []),
            ("(rec b m.t *0)", ["ab", "b"]), ("(rec a num b *0 c num)", []), ("(rec c num *0)", []),
            ("(sum a num)", ["tag a"]), ("(sum a num *0)", ["tag a"]), ("(sum b num *0)", []), ("(sum a *0 b *0)", ["tag a", "tag b", "tag a fun"]),
            ("(sum a num b (fun num num))", ["tag a", "tag b"]), ("(sum c num *0)", []), ("(sum a m.t)", ["tag a", "tag a fun"]),
        ):
            self.assertEqual([name for name, worth in worths.items() if fits(kind_in(text), worth)], fitting, text)
            for worth in worths.values():
                self.assertIs(fits(kind_in(text), worth), plain_fits(kind_in(text), worth))

    def test_within(self):
        kind = kind_in("(rec l (sum a (rec x num *0) b num) *1)")
        self.assertIs(fits(kind, rec(l=tag("a", rec(x=num(1), y=FUN)), m=num(1))), True)
        self.assertIs(fits(kind, rec(l=tag("a", rec(y=FUN)), m=num(1))), False)
        self.assertIs(fits(kind, rec(l=tag("a", rec(x=FUN)))), False)
        self.assertIs(fits(kind, rec(l=tag("b", num(1)))), True)
        self.assertIs(fits(kind, rec(l=tag("b", FUN))), False)
        self.assertIs(fits(kind, rec(m=tag("b", num(1)))), False)

    def test_against_plain(self):
        chance = random.Random(91)
        counts = {True: 0, False: 0}
        for _ in range(3000):
            kind = chance_kind(chance, 4)
            for worth in (worth_for(chance, kind), chance_worth(chance, 3)):
                kept = copy.deepcopy((kind, worth))
                found = fits(kind, worth)
                self.assertIs(found, plain_fits(kind, worth))
                self.assertEqual((kind, worth), kept)
                counts[found] += kind[0] in ("rec", "sum")
        self.assertTrue(min(counts.values()) > 300, counts)


if __name__ == "__main__":
    unittest.main()
