import copy
import random
import unittest

from sealedkinds.errors import Unknown
from sealedkinds.kindtext import kind_in
from sealedkinds.looking import can_be
from sealedkinds.mends import core_of, mends, shows_core
from sealedkinds.terms import part_at, places_of, things_in, with_at
from sealedkinds.termtext import term_in, term_text
from tests import plain, plainmends
from tests.test_looking import deep, known_of, wide
from tests.things import chance_kind, chance_term, chance_thing, deep_things, spoiled

HOLE = ("hole",)

# texts with their least places that mend
MENDED = (
    ("1", []), ("(add 1 2)", []), ("?", []), ("(fun x x)", []), ("(call ? (rec))", []),
    # one least place
    ("(add (rec) 1)", [(0,)]), ("(add 1 (fun x x))", [(1,)]), ("(fun x (add (rec) x))", [(0, 0)]), ("(call 1 ?)", [(0,)]),
    ("(add 1 (add 1 (add (rec) 1)))", [(1, 1, 0)]), ("(case 1 a x x)", [(0,)]),
    # several
    ("(get (rec a 1) b)", [(0,)]), ("(add (get (rec a (rec)) a) 1)", [(0, 0, 0)]),
    ("(call (fun x (add x 1)) (rec))", [(0, 0, 0), (1,)]), ("(under 1 2 (rec) 3)", [(2,), (3,)]),
    ("(fun x (rec a (add x 1) b (get x c)))", [(0, 0, 0), (0, 1, 0)]), ("(fun x (call x x))", [(0, 0), (0, 1)]),
    ("(put (get (rec a 1) a) b 2)", [(0, 0, 0)]), ("(put (rec a 1) b 2)", [(0,)]), ("(put (tag a 1) b 2)", [(0,)]),
    # the whole alone, and one that isn't a leaf
    ("(add (rec) (rec))", [()]), ("(rec a (add (rec) 1) b (add 1 (rec)))", [()]), ("(call (add (rec) 1) 2)", [(0,)]),
    ("(rec a 1 b (add (rec) (rec)) c 3)", [(1,)]), ("(call (rec a (add (rec) 1)) 2)", [(0,)]),
    ("(get (add (rec) 1) a)", [(0,)]), ("(under (rec) 1 (add 1 2) (rec))", [()]),
    ("(case (tag c 1) a x x b y y)", [(0,)]), ("(case ? a x 1 b y (rec))", [(1,), (2,)]),
    ("(case (tag a 1) a x (get x l))", [(0, 0), (1, 0)]),
)


def asked_of(term, known, own):
    """mends and core_of, and None; or None twice and the place of Unknown of both."""
    try:
        return mends(term, known, own=own), core_of(term, known, own=own), None
    except Unknown as refusal:
        for asked in (lambda: core_of(term, known, own=own), lambda: shows_core(term, known, None, own=own)):
            try:
                asked()
            except Unknown as other:
                assert other.what == refusal.what
            else:
                raise AssertionError("not refused")
        return None, None, refusal.what


class Mends(unittest.TestCase):
    def test_least_places(self):
        for text, places in MENDED:
            self.assertEqual(mends(term_in(text), []), places, text)
            self.assertEqual(plainmends.mends(term_in(text), []), places, text)

    def test_own_left_out_and_told(self):
        term = term_in("(fun x (add (call f x) (get (call f 1) a)))")
        self.assertEqual(mends(term, [], own="f"), [(0, 1, 0, 0)])
        self.assertEqual(mends(term_in("(rec a (add f 1))"), [], own="f"), [(0, 0)])
        self.assertEqual(mends(term_in("(add f 1)"), [], own="f"), [])
        # where it's known, too
        self.assertEqual(mends(term_in("(rec a (add f 1))"), known_of(("f", "num"))), [])
        self.assertEqual(mends(term_in("(rec a (add f 1))"), known_of(("f", "num")), own="f"), [(0, 0)])
        for more in ({}, {"own": None}, {"own": "g"}):
            with self.assertRaises(Unknown) as caught:
                mends(term, [], **more)
            self.assertEqual(caught.exception.what, (0, 0, 0))

    def test_unknown_even_where_a_hole_would_be(self):
        for text, place in (("(add (rec) x)", (1,)), ("(add (rec a x) 1)", (0, 0)), ("(call m.x y)", (0,)), ("x", ()),
                            ("(fun x (add (rec) (call y x)))", (0, 1, 0))):
            for asked in (mends, core_of):
                with self.assertRaises(Unknown) as caught:
                    asked(term_in(text), [])
                self.assertEqual(caught.exception.what, place)
            for thing in ([], None, [()], [(0,), ()]):
                with self.assertRaises(Unknown) as caught:
                    shows_core(term_in(text), [], thing)
                self.assertEqual(caught.exception.what, place)

    def test_kinds_too_great(self):
        known = [("k", wide(99)), ("d", deep(16)), ("g", wide(101)), ("n", deep(17)), ("c", kind_in("(fun *0 num)"))]
        for text, places in (
            ("k", []), ("(rec a k)", []), ("(rec a k b 1)", [(0,)]), ("(call c k)", [(1,)]), ("(rec a d)", [(0,)]),
            ("(call c d)", [(1,)]), ("g", [()]), ("(add 1 (get (rec a g) a))", [(1, 0, 0)]), ("(fun x n)", [(0,)]),
            ("(rec a 1 b (rec c d))", [(1, 0)]), ("(rec a (rec b k) b k)", [()]), ("(rec a (rec b (rec b k)) b 1)", [(0, 0, 0)]),
            ("(call (fun x 1) k)", [(1,)]), ("(rec a (get (rec c d) c) b (rec c (rec d k)))", [()]),
        ):
            self.assertEqual(mends(term_in(text), known), places, text)
            self.assertEqual(plainmends.mends(term_in(text), known), places, text)
            core = core_of(term_in(text), known)
            self.assertEqual(core is None, places == [])
            self.assertIs(shows_core(term_in(text), known, core), places != [])

    def test_against_plain(self):
        chance = random.Random(30)
        counts = {"unknown": 0, "right": 0, "one": 0, "more": 0, "whole": 0}
        for _ in range(2000):
            term, known, own = chance_asked(chance)
            if things_in(term) > 16:
                continue
            found = asked_of(term, known, own)
            if plain.Look(term, known, own).unknown() is not None:
                counts["unknown"] += 1
                self.assertEqual(found[2], plain.Look(term, known, own).unknown())
                continue
            expected = plainmends.mends(term, known, own)
            self.assertEqual(found[0], expected, term_text(term))
            counts["right" if not expected else "whole" if expected == [()] else "one" if len(expected) == 1 else "more"] += 1
            if expected:
                self.assertTrue(plainmends.is_core(term, known, found[1], own), term_text(term))
            else:
                self.assertIsNone(found[1])
        self.assertTrue(min(counts.values()) > 20, counts)

    def test_what_holes_do(self):
        chance = random.Random(31)
        many = 0
        for _ in range(500):
            term, known, own = chance_asked(chance)
            found = asked_of(term, known, own)
            if not found[0]:
                continue
            many += 1
            places = places_of(term)
            self.assertEqual(found[0], [place for place in places if place in found[0]])
            for place in places:
                holed = with_at(term, place, HOLE)
                mended = any(one[:len(place)] == place for one in found[0])
                self.assertIs(can_be(holed, known, places_of(holed), own=own), mended)
                # one of each core
                if mended:
                    self.assertTrue(any(one[:len(place)] == place for one in found[1]))
        self.assertGreater(many, 100)


def chance_asked(chance):
    names = chance.choice((("x", "y", "f", "g"), ("x", "f"), ("x",)))
    known = [(name, chance_kind(chance, 3)) for name in ("x", "y", "f", "g") if chance.random() < 0.9]
    known += [(("m", name), chance_kind(chance, 3)) for name in ("x", "y", "f", "g") if chance.random() < 0.9]
    if chance.random() < 0.2:
        known = [(what, chance.choice((kind, wide(chance.randint(30, 101)), deep(chance.randint(8, 17))))) for what, kind in known]
    term = chance_term(chance, chance.randint(2, 5), names)
    if chance.random() < 0.3:
        # two that have to be alike: often either of them mends
        term = ("under", ("num", 1), ("num", 2), chance_term(chance, 3, names), chance_term(chance, 2, names))
    return term, known, chance.choice((None, "x", "h"))


class Cores(unittest.TestCase):
    def test_none_where_all_can_be_kept(self):
        for text, places in MENDED:
            core = core_of(term_in(text), [])
            if not places:
                self.assertIsNone(core, text)
                for thing in (None, [], places_of(term_in(text)), [()]):
                    self.assertIs(shows_core(term_in(text), [], thing), False)
            else:
                self.assertIsInstance(core, list)
                self.assertTrue(plainmends.is_core(term_in(text), [], core), text)
                self.assertIs(shows_core(term_in(text), [], core), True)

    def test_known_cores(self):
        for text, cores in (
            ("(add (rec) 1)", [[(0,), ()]]), ("(add (rec) (rec))", [[(0,), ()], [(1,), ()]]), ("(call 1 ?)", [[(0,), ()]]),
            ("(rec a (add (rec) 1) b (add 1 (rec)))", [[(0, 0), (0,)], [(1, 1), (1,)]]),
            ("(under 1 2 (rec) 3)", [[(2,), (3,), ()]]), ("(fun x (call x x))", [[(0, 0), (0, 1), (0,)]]),
            ("(call (fun x (add x 1)) (rec))", [[(0, 0, 0), (0, 0), (0,), (1,), ()]]),
        ):
            term = term_in(text)
            self.assertIn(core_of(term, []), cores)
            for core in cores:
                self.assertIs(shows_core(term, [], core), True)

    def test_cores_spoiled(self):
        chance = random.Random(32)
        counts = {True: 0, False: 0}
        for _ in range(300):
            term, known, own = chance_asked(chance)
            found = asked_of(term, known, own)
            if found[1] is None or things_in(term) > 14:
                continue
            core, places = found[1], places_of(term)
            self.assertEqual(core, [place for place in places if place in core])
            self.assertIs(shows_core(term, known, core, own=own), True)
            self.assertIs(shows_core(term, known, tuple(core), own=own), False)
            self.assertIs(shows_core(term, known, core + core[-1:], own=own), False)
            self.assertIs(shows_core(term, known, core[:1] + core, own=own), False)
            if len(core) > 1:
                self.assertIs(shows_core(term, known, core[::-1], own=own), False)
                self.assertIs(shows_core(term, known, core[1:2] + core[:1] + core[2:], own=own), False)
            for k in range(len(core)):
                self.assertIs(shows_core(term, known, core[:k] + core[k + 1:], own=own), False)
            for place in places:
                if place not in core:
                    more = [one for one in places if one in core or one == place]
                    self.assertIs(shows_core(term, known, more, own=own), False)
                    other = [one for one in places if one in core[1:] or one == place]
                    right = plainmends.is_core(term, known, other, own)
                    counts[right] += 1
                    self.assertIs(shows_core(term, known, other, own=own), right)
            for place in ((9,), (-1,), (0, 0, 0, 0, 0, 0, 0), (10 ** 30,)):
                self.assertIs(shows_core(term, known, core + [place], own=own), False)
                self.assertIs(shows_core(term, known, [place] + core, own=own), False)
        self.assertTrue(counts[False] > 50 and counts[True] > 3, counts)

    def test_things_of_any_make(self):
        term = term_in("(call (fun x (add x 1)) (rec))")
        core = core_of(term, [])
        for thing in spoiled(tuple(core)):
            made = list(thing) if isinstance(thing, tuple) else thing
            self.assertIs(shows_core(term, [], made), made == core and all(type(n) is int for p in made for n in p))
        for k, place in enumerate(core):
            for other in (list(place), place + (True,), place + (None,), place + ("0",), tuple(n == 1 for n in place) or False):
                if other != ():
                    self.assertIs(shows_core(term, [], core[:k] + [other] + core[k + 1:]), False)
        chance = random.Random(33)
        for thing in [chance_thing(chance, 6) for _ in range(1000)] + deep_things(50):
            self.assertIs(shows_core(term, [], thing), False)
            self.assertIs(shows_core(term, [], [thing]), False)
            self.assertIs(shows_core(term, [], core + [thing]), False)

    def test_truths_are_no_numbers(self):
        term = term_in("(call (rec) (call 1 2))")
        self.assertIs(shows_core(term, [], [(1, 0), (1,)]), True)
        for thing in ([(True, 0), (1,)], [(1, False), (1,)], [(1, 0), (True,)]):
            self.assertIs(shows_core(term, [], thing), False)


class Answers(unittest.TestCase):
    known = known_of(("inc", "(fun num num)"), (("m", "x"), "m.t"))

    def test_known_as_a_list_and_as_a_tuple(self):
        term = term_in("(call inc (add m.x 1))")
        for known in (self.known, tuple(self.known), self.known[::-1]):
            self.assertEqual(mends(term, known), [(1, 0)])
            core = core_of(term, known)
            self.assertEqual(core, [(1, 0), (1,)])
            self.assertIs(shows_core(term, known, core), True)

    def test_nothing_is_changed_and_told_lists_are_ones_own(self):
        term = term_in("(call inc (add m.x (rec)))")
        core = core_of(term, self.known)
        kept = copy.deepcopy((term, self.known, core))
        first = mends(term, self.known)
        shows_core(term, self.known, core)
        self.assertEqual((term, self.known, core), kept)
        again = list(first)
        first.append(None)
        self.assertEqual(mends(term, self.known), again)
        core.clear()
        self.assertEqual(core_of(term, self.known), kept[2])

    def test_own_by_its_name_alone(self):
        for asked in (lambda: mends(HOLE, [], "f"), lambda: core_of(HOLE, [], "f"), lambda: shows_core(HOLE, [], [], "f")):
            with self.assertRaises(TypeError):
                asked()

    def test_great_terms(self):
        text = "x"
        for _ in range(12):
            text = f"(call p {text})"
        term = term_in(f"(fun x {text})")
        known = known_of(("p", "(fun *0 (rec a *0 b *0))"))
        found = mends(term, known)
        for place in found:
            self.assertEqual(part_at(term, place), part_at(with_at(term, place, part_at(term, place)), place))
            holed = with_at(term, place, HOLE)
            self.assertTrue(can_be(holed, known, places_of(holed)))
        self.assertIs(shows_core(term, known, core_of(term, known)), True)


if __name__ == "__main__":
    unittest.main()
