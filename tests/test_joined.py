import copy
import random
import unittest

from sealedkinds.apart import states
from sealedkinds.joined import faults, is_whole, whole_states
from sealedkinds.kinds import deep_of, opened, size_of
from sealedkinds.kindtext import kind_in
from sealedkinds.modules import face_of
from sealedkinds.moduletext import module_in, module_text
from sealedkinds.opening import comes_to
from tests import plainmodules
from tests.chancemodules import chance_module, likely_whole
from tests.things import chance_thing, deep_things, spoiled

NUM = ("num",)


def whole_of(text):
    """A whole by its modules' texts, parted by empty rows."""
    return [module_in("\n".join(row.strip() for row in part.strip().split("\n"))) for part in text.strip().split("\n\n")]


PAIRS = whole_of("""
    module pairs
    seal pair (rec a num b num)
    tell first (fun pairs.pair num)
    tell made (fun num (fun num pairs.pair))
    let made (fun x (fun y (rec a x b y)))
    let first (fun p (get p a))
    let swap (fun p (put (put p a (get p b)) b (get p a)))

    module user
    uses pairs
    tell three num
    let two (call (call pairs.made 1) 2)
    let three (add (call pairs.first two) 2)
""")


class IsWhole(unittest.TestCase):
    def test_right_ones(self):
        a, b, c = whole_of("module a\nlet x 1\n\nmodule b\nuses a\nlet x 1\n\nmodule c\nuses a b z\nlet x 1")
        for thing in ([], [a], [b], [c], [a, b], [a, c], [b, c], [a, b, c], PAIRS, PAIRS[1:]):
            self.assertIs(is_whole(thing), True)
            self.assertTrue(plainmodules.is_whole(thing))

    def test_wrong_ones(self):
        a, b, c = whole_of("module a\nlet x 1\n\nmodule b\nuses a\nlet x 1\n\nmodule c\nuses a b z\nlet x 1")
        other, = whole_of("module a\nlet y 1")
        ring = whole_of("module d\nuses e\nlet x 1\n\nmodule e\nuses d\nlet x 1")
        for thing in ([a, a], [a, other], [a, b, a], [b, a], [c, a], [c, b], [a, c, b], [b, a, c], ring, ring[::-1], (a,), (), (a, b), a, [a[0]],
                      [face_of(a)], [a, None], [a, list(b)], [[a]], [(a,)], None, True, 0, "", "a", [None], [[]], [()], {}):
            self.assertIs(is_whole(thing), False, thing)
            self.assertFalse(plainmodules.is_whole(thing))

    def test_one_thing_otherwise_and_things_of_any_make(self):
        for thing in spoiled(tuple(PAIRS)):
            made = list(thing) if isinstance(thing, tuple) else thing
            self.assertIs(is_whole(made), plainmodules.is_whole(made))
        chance = random.Random(80)
        for thing in [chance_thing(chance, 6) for _ in range(1500)] + deep_things(50):
            for made in (thing, [thing], PAIRS + [thing], [thing] + PAIRS):
                self.assertIs(is_whole(made), plainmodules.is_whole(made))

    def test_in_any_order(self):
        chance = random.Random(81)
        counts = {True: 0, False: 0}
        for _ in range(300):
            whole = likely_whole(chance)
            self.assertIs(is_whole(whole), True)
            chance.shuffle(whole)
            counts[is_whole(whole)] += 1
            self.assertIs(is_whole(whole), plainmodules.is_whole(whole))
        self.assertTrue(min(counts.values()) > 30, counts)


class Faults(unittest.TestCase):
    def test_none_one_and_several(self):
        self.assertEqual(faults([]), [])
        self.assertEqual(faults(PAIRS), [])
        self.assertEqual(faults(PAIRS[1:]), [("user", ("use", "pairs"))])
        whole = whole_of("""
            module a
            let x (add 1 (rec))

            module b
            uses a
            let y 1

            module c
            uses a b
            tell z b.t
            let z ?

            module d
            uses c q
            let x 1

            module e
            uses b
            tell y num
            let y b.y
        """)
        told = [("a", ("def", "x")), ("c", ("told", "z")), ("d", ("use", "q")), ("e", ("def", "y"))]
        self.assertEqual(faults(whole), told)
        self.assertEqual(faults(tuple(whole)), told)
        # by the faces of those ahead, right or not
        self.assertEqual(faults(whole[1:3]), [("b", ("use", "a")), ("c", ("use", "a"))])

    def test_by_faces_not_by_what_is_within(self):
        whole = whole_of("""
            module a
            tell x *0
            let x 1

            module b
            uses a
            tell y (rec)
            let y a.x
        """)
        self.assertEqual(faults(whole), [("a", ("closed", "x"))])

    def test_against_plain(self):
        chance = random.Random(82)
        many = 0
        for _ in range(400):
            whole = likely_whole(chance)
            found = faults(whole)
            self.assertEqual(found, plainmodules.faults(whole))
            many += not found
        self.assertTrue(30 < many < 370, many)


class WholeStates(unittest.TestCase):
    def test_each_definition_known_where_it_is_used(self):
        self.assertEqual(whole_states([]), [])
        fun = kind_in("(fun num num)")
        self.assertEqual(whole_states(PAIRS), [
            ("pairs", "made", "kind", kind_in("(fun *0 (fun *1 (rec a *0 b *1)))")), ("pairs", "first", "kind", kind_in("(fun (rec a *0 *1) *0)")),
            ("pairs", "swap", "kind", kind_in("(fun (rec a *0 b *1 *2) (rec a *1 b *0 *2))")),
            ("user", "two", "kind", kind_in("(rec a num b num)")), ("user", "three", "kind", NUM)])
        whole = whole_of("""
            module a
            let f (fun x x)
            let g f

            module b
            uses a
            let x (call a.g (call a.f 1))

            module c
            let x a.f

            module d
            uses a b
            let x (rec a b.x b a.f)
            let y a.x
            let z (call b.x 1)
            let f d.x
        """)
        told = [("a", "f", "kind", kind_in("(fun *0 *0)")), ("a", "g", "kind", kind_in("(fun *0 *0)")), ("b", "x", "kind", NUM), ("c", "x", "unknown", ()),
                ("d", "x", "kind", kind_in("(rec a num b (fun *0 *0))")), ("d", "y", "unknown", ()), ("d", "z", "clash", ()), ("d", "f", "unknown", ())]
        self.assertEqual(whole_states(whole), told)
        self.assertEqual(whole_states(tuple(whole)), told)
        self.assertEqual(whole_states(whole_of("module a\nuses z\nlet f (fun n (add n (call f n)))\nlet x z.y")),
                         [("a", "f", "kind", fun), ("a", "x", "unknown", ())])

    def test_clashes_apart_alone(self):
        # a seal can be seen through in the whole
        whole = PAIRS[:1] + whole_of("module b\nuses pairs\nlet x (get (call (call pairs.made 1) 2) a)\nlet y (call pairs.swap (rec a 1 b 2))")
        self.assertEqual([word for _, word, _ in states(whole[1], [face_of(whole[0])])], ["clash", "unknown"])
        self.assertEqual(whole_states(whole)[3:], [("b", "x", "kind", NUM), ("b", "y", "kind", kind_in("(rec a num b num)"))])

    def test_leaning_on_a_from(self):
        whole = whole_of("""
            module a
            let x (call 1 1)
            let y x
            let z 1

            module b
            uses a
            let p a.x
            let q (add a.z a.y)
            let r p
            let s (add w a.x)
            let t (add a.x w)
            let u (add a.z 1)

            module x
            let x a.x
        """)
        self.assertEqual(whole_states(whole), [
            ("a", "x", "clash", ()), ("a", "y", "leans", "x"), ("a", "z", "kind", NUM), ("b", "p", "leans", "x"), ("b", "q", "leans", "y"),
            ("b", "r", "leans", "p"), ("b", "s", "unknown", (0,)), ("b", "t", "leans", "x"), ("b", "u", "kind", NUM), ("x", "x", "unknown", ())])
        self.assertEqual(plainmodules.whole_states(whole), whole_states(whole))

    def test_great_kinds(self):
        def doubled(many):
            rows = ["module a", "let p (fun x (rec a x b x))", "let xa (rec a 1 b 2 c 3)"]
            names = ["x" + letter for letter in "abcdefghijklmn"[:many + 1]]
            rows += [f"let {name} (call p {before})" for before, name in zip(names, names[1:])]
            return [module_in("\n".join(rows))]
        # 4 things, then twice as many and one more: 9, 19, 39, 79, 159, 319, 639, 1279
        found = whole_states(doubled(8))
        self.assertEqual([size_of(what) for _, _, word, what in found[1:] if word == "kind"], [4, 9, 19, 39, 79, 159, 319])
        # the kind of p there: itself, what it takes and what it gives
        self.assertEqual([(word, what) for _, _, word, what in found[8:]], [("clash", ()), ("leans", "xh")])
        apart = states(doubled(8)[0], [])
        self.assertEqual([word for _, word, _ in apart], ["kind"] * 5 + ["clash"] + ["leans"] * 4)

    def test_wide_and_deep_bounds(self):
        def deep_whole(many):
            text = "1"
            for _ in range(many):
                text = f"(rec a {text})"
            return whole_of(f"module a\nlet x {text}\n\nmodule b\nuses a\nlet x (rec a a.x)\nlet y x")
        for many, words in ((15, ["kind", "kind", "kind"]), (16, ["kind"] * 3), (22, ["kind"] * 3), (23, ["kind", "clash", "leans"]),
                            (24, ["clash", "leans", "leans"])):
            found = whole_states(deep_whole(many))
            self.assertEqual([word for _, _, word, _ in found], words)
            self.assertEqual([deep_of(what) for _, _, word, what in found if word == "kind"], [many + 1, many + 2, many + 2][:words.count("kind")])

        def wide_whole(many):
            left = many - 1 - 3 * 191
            rows = ["module a"]
            for name, things in (("p", 190), ("q", 190), ("r", 190), ("s", left)):
                labels = sorted(one + two for one in "abcdefghijklmnopqrst" for two in "abcdefghijklmnopqrst")[:things]
                rows.append(f"let {name} (rec {' '.join(label + ' 1' for label in labels)})")
            return whole_of("\n".join(rows + ["let x (rec a p b q c r d s)"]) + "\n\nmodule b\nuses a\nlet y a.x\nlet z (rec a y)")
        for many, words in ((798, ["kind"] * 3), (799, ["kind", "kind", "clash"])):
            found = whole_states(wide_whole(many))[4:]
            self.assertEqual([word for _, _, word, _ in found], words)
            self.assertEqual(size_of(found[0][3]), many + 1)
        self.assertEqual([word for _, _, word, _ in whole_states(wide_whole(800))[4:]], ["clash", "leans", "leans"])

    def test_without_faults(self):
        chance = random.Random(83)
        many = 0
        for _ in range(600):
            whole = likely_whole(chance)
            if faults(whole):
                continue
            many += any(module[1] for module in whole)
            opens = [(m, seal, kind) for (m, seal), kind in plainmodules.all_opens(whole).items()]
            found = {(m, x): what for m, x, word, what in whole_states(whole) if word == "kind"}
            for k, module in enumerate(whole):
                apart = {x: what for x, word, what in states(module, [face_of(other) for other in whole[:k]])}
                for x, _ in module[4]:
                    # as open as apart, or more open
                    self.assertTrue(comes_to(found[(module[0], x)], opened(apart[x], opens)))
                for x, kind in module[3]:
                    self.assertTrue(comes_to(found[(module[0], x)], opened(kind, opens)))
        self.assertGreater(many, 40)

    def test_against_plain(self):
        chance = random.Random(84)
        words = {"kind": 0, "clash": 0, "unknown": 0, "leans": 0}
        for _ in range(300):
            whole = likely_whole(chance)
            if chance.random() < 0.4:
                whole += [chance_module(chance, name) for name in ("e", "k")]
            found = whole_states(whole)
            self.assertEqual(found, plainmodules.whole_states(whole), [module_text(module) for module in whole])
            for _, _, word, _ in found:
                words[word] += 1
        self.assertTrue(min(words.values()) > 30, words)


class Answers(unittest.TestCase):
    def test_nothing_is_changed_and_told_lists_are_ones_own(self):
        whole = PAIRS + whole_of("module b\nuses z\nlet x 1")
        kept = copy.deepcopy(whole)
        for asked in (faults, whole_states):
            first = asked(whole)
            again = list(first)
            first.reverse()
            first.append(None)
            self.assertEqual(asked(whole), again)
            self.assertEqual(asked(tuple(whole)), again)
        is_whole(whole)
        self.assertEqual(whole, kept)


if __name__ == "__main__":
    unittest.main()
