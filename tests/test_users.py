import copy
import random
import unittest

from sealedkinds import errors
from sealedkinds.joined import faults
from sealedkinds.kindtext import kind_in
from sealedkinds.looking import kind_of
from sealedkinds.modules import face_of, is_face
from sealedkinds.moduletext import module_in, module_text
from sealedkinds.opening import comes_to
from sealedkinds.running import LIMIT, used
from sealedkinds.terms import is_term, named_in, things_in
from sealedkinds.termtext import term_in, term_text
from sealedkinds.users import SIZE, parting, users
from tests import plainruns
from tests.chancemodules import likely_whole
from tests.test_joined import whole_of

NUM = ("num",)


def face(*values, name="m", owns=("t",)):
    """A face of values, written as in a module's text."""
    pairs = [value.split(" ", 1) for value in values]
    return (name, owns, tuple((x, kind_in(text)) for x, text in pairs))


def texts(asked, size):
    return [term_text(term) for term in users(asked, size=size)]


def refused(*handed, **more):
    try:
        return parting(*handed, **more)
    except (errors.Unlike, errors.Faulty) as refusal:
        return (type(refusal).__name__, refusal.what)


SEALED = face("get (fun m.t num)", "new m.t", "two (fun m.t (fun m.t num))", "up (fun m.t m.t)")
FACES = (
    face(), face("x num"), face("x *0"), face("f (fun num num)"), face("f (fun *0 *0)"), face("f (fun num num)", "g (fun num num)", "x num"), SEALED,
    face("r (rec a num b (rec c num))"), face("r (rec b num *0)", "s (rec a (fun num num))"), face("f (fun (rec a num *0) num)", "r (rec a num b num)"),
    face("f (fun num (rec a num))"), face("f (fun (sum a num b num) num)", "s (sum a num)"), face("s (sum a (rec b num) *0)"), face("t m.t"),
    face("k (fun *0 (fun *1 *0))", "s (rec)"), face("f (fun (fun num num) num)", "g (fun num num)"), face("h (rec a *0 b (fun num num))"),
    face("w (fun num *0)"), face("far (fun k.s num)", "made k.s"), face("f (fun (rec a num b num) num)"), face("f (fun *0 (rec a *0))"),
)


class Users(unittest.TestCase):
    def test_small_faces(self):
        for asked, size, found in (
            (face(), 5, ["0", "1"]), (face(), 1, ["0", "1"]), (face("x num"), 3, ["0", "1", "m.x"]), (face("t m.t"), 4, ["0", "1"]),
            (face("f (fun num num)"), 3, ["0", "1", "(call m.f 0)", "(call m.f 1)"]),
            (face("f (fun num num)"), 5, ["0", "1", "(call m.f 0)", "(call m.f 1)", "(call m.f (call m.f 0))", "(call m.f (call m.f 1))"]),
            (face("r (rec a num b (rec c num))"), 3, ["0", "1", "(get m.r a)", "(get (get m.r b) c)"]),
            (face("r (rec a num b (rec c num))"), 2, ["0", "1", "(get m.r a)"]),
            (face("s (sum a num)"), 3, ["0", "1"]), (face("x *0"), 2, ["0", "1", "m.x"]), (face("x *0"), 3, ["0", "1", "m.x", "(call m.x 0)", "(call m.x 1)", "(call m.x m.x)"]),
            (SEALED, 3, ["0", "1", "(call m.get m.new)"]), (SEALED, 4, ["0", "1", "(call m.get m.new)"]),
            (SEALED, 5, ["0", "1", "(call m.get m.new)", "(call (call m.two m.new) m.new)", "(call m.get (call m.up m.new))"]),
        ):
            self.assertEqual(texts(asked, size), found)

    def test_gets_of_just_the_labels_in_recs(self):
        # c stands in a sum alone; of x, an any, each other label may be got
        asked = face("f (fun (rec a num) (sum c (fun (rec b num) num)))", "x *0")
        found = texts(asked, 2)
        self.assertEqual(found, ["0", "1", "m.x", "(get m.x a)", "(get m.x b)"])
        # labels that stand in what is taken as well; where no rec has the label there's none
        self.assertEqual(texts(face("f (fun (rec a num) num)", "r (rec a num)"), 3), ["0", "1", "(get m.r a)", "(call m.f 0)"][:3] + ["(call m.f m.r)"])
        self.assertEqual(texts(face("x *0"), 2), ["0", "1", "m.x"])

    def test_against_plain(self):
        for asked in FACES:
            self.assertIs(is_face(asked), True)
            many = 0
            for size in (1, 2, 3, 4, 5) if len(asked[2]) < 3 else (1, 2, 3, 4):
                found = users(asked, size=size)
                self.assertEqual(found, plainruns.users(asked, size), (asked, size))
                self.assertIsInstance(found, list)
                many = max(many, len(found))
            self.assertGreaterEqual(many, 2)

    def test_in_order_and_none_twice(self):
        for asked in FACES:
            found = users(asked, size=5)
            keys = [(things_in(term), term_text(term)) for term in found]
            self.assertEqual(keys, sorted(set(keys)))
            known = [((asked[0], x), kind) for x, kind in asked[2]]
            for term in found:
                self.assertIs(is_term(term), True)
                self.assertIs(comes_to(kind_of(term, known), NUM), True)
                self.assertTrue(all(what in dict(known) for _, what in named_in(term)))

    def test_size(self):
        self.assertEqual(SIZE, 4)
        for asked in FACES:
            self.assertEqual(users(asked), users(asked, size=4))
        with self.assertRaises(TypeError):
            users(SEALED, 3)

    def test_four_values_at_size_five(self):
        for asked in (face("a (fun *0 *0)", "b (fun *0 (fun *1 *0))", "c (fun *0 (fun *1 *1))", "d (rec x num y num z num)"),
                      face("a *0", "b *0", "c *0", "d (rec x *0 y *1 z *2)"), face("a (fun *0 *1)", "b (fun *0 *1)", "c (fun *0 *1)", "d (rec x *0 y *1 z *2)")):
            found = users(asked, size=5)
            self.assertEqual([term for term in found if things_in(term) < 4], plainruns.users(asked, 3))
            self.assertGreater(len(found), 30)

    def test_kinds_that_become_too_great(self):
        # each call makes it twice as great; at the fourth the kind of f there has more than a hundred things
        kind = "(rec a (rec a *0 b *0 c *0) b (rec a *0 b *0 c *0) c (rec a *0 b *0 c *0))"
        asked = face(f"f (fun *0 {kind})", "g (fun *0 num)")
        for size in (3, 4, 5):
            self.assertEqual(users(asked, size=size), plainruns.users(asked, size))


class Parting(unittest.TestCase):
    def test_the_first_one(self):
        one, = whole_of("module m\nseal t num\ntell get (fun m.t num)\ntell new m.t\ntell up (fun m.t m.t)\nlet new 0\nlet up (fun x (add x 1))\nlet get (fun x x)")
        rows = module_text(one)
        for old, new, found in (
            ("let new 0", "let new 1", "(call m.get m.new)"), ("(add x 1)", "(add x 2)", "(call m.get (call m.up m.new))"), ("(add x 1)", "(add 1 x)", None),
            ("let get (fun x x)", "let get (fun x (add x 99990))", "(call m.get m.new)"), ("(fun x x)", "(fun x (under x 2 x 7))", None),
            ("let new 0", "let new ?", None), ("let new 0", "let new 0\nlet more 1", None),
        ):
            other = module_in(rows.replace(old, new))
            told = None if found is None else term_in(found)
            self.assertEqual(parting([], one, other, size=5), told, new)
            self.assertEqual(parting((), one, other, size=5), told)
            self.assertEqual(parting([], other, one, size=5), told)
            self.assertEqual(plainruns.parting([], one, other, 5), told)
        other = module_in(rows.replace("(add x 1)", "(add x 2)"))
        for size in (1, 2, 3, 4):
            self.assertIsNone(parting([], one, other, size=size))
        self.assertIsNone(parting([], one, other))

    def test_a_seal_worn_otherwise(self):
        rows = """
            module m
            seal t {}
            tell get (fun m.t num)
            tell made (fun num m.t)
            tell up (fun m.t m.t)
            let made (fun x {})
            let up (fun x {})
            let get (fun x {})
        """
        one, = whole_of(rows.format("num", "x", "(add x 1)", "x"))
        for inside in (("(rec l num)", "(rec l x)", "(put x l (add (get x l) 1))", "(get x l)"), ("(sum l num)", "(tag l x)", "(case x l y (tag l (add y 1)))", "(case x l y y)"),
                       ("(fun num num)", "(fun y x)", "(fun y (add (call x 0) 1))", "(call x 5)"), ("num", "(less 0 x)", "(less x 1)", "(less 0 x)")):
            other, = whole_of(rows.format(*inside))
            self.assertEqual(faults([other]), [])
            self.assertIsNone(parting([], one, other, size=5))
            for user in users(face_of(one), size=5):
                self.assertEqual(used([one], user)[0], used([other], user)[0])
            worse, = whole_of(rows.format(*inside).replace("let up (fun x", "let up (fun x x)\nlet down (fun x"))
            self.assertIsNone(parting([], one, worse, size=5))
            self.assertEqual(parting([], one, worse, size=7), term_in("(call m.get (call m.up (call m.made 0)))"))

    def test_those_that_either_refuses_are_passed_over(self):
        rows = "module m\ntell a num\ntell b num\ntell f (fun num num)\nlet f (fun x {})\nlet a {}\nlet b {}"
        one = module_in(rows.format("(add x 1)", "1", "2"))
        for other, found in ((("(add x 1)", "?", "2"), None), (("(add x 1)", "?", "3"), "m.b"), (("(add x 2)", "?", "?"), "(call m.f 0)"),
                             (("(under x 1 ? 5)", "1", "2"), "(call m.f 1)"), (("(call f x)", "(call f 1)", "2"), None), (("(call f x)", "(call f 1)", "1"), "m.b")):
            other = module_in(rows.format(*other))
            told = None if found is None else term_in(found)
            for pair in ((one, other), (other, one)):
                self.assertEqual(parting([], *pair, size=5), told)
                self.assertEqual(plainruns.parting([], *pair, 4), told)

    def test_most(self):
        rows = "module m\ntell a num\nlet a {}"
        one, other = module_in(rows.format("(add 1 (add 1 1))")), module_in(rows.format("4"))
        user = ("from", "m", "a")
        # from, add, 1, add, 1, 1
        self.assertEqual(used([one], user)[1], 6)
        self.assertEqual(parting([], one, other, most=6), user)
        self.assertIsNone(parting([], one, other, most=5))
        self.assertIsNone(parting([], one, other, most=0))
        self.assertEqual(parting([], other, one, most=6), user)
        self.assertIsNone(parting([], other, one, most=5))
        # of parts: call, from, fun, 0, add, x, and what is called within
        rows = "module m\ntell f (fun num num)\ntell g (fun (fun num num) (fun num num))\nlet f (fun x {})\nlet g (fun f (fun x (call f (call f x))))"
        one, other = module_in(rows.format("(add x 1)")), module_in(rows.format("(add (add x 1) 1)"))
        for size, most in ((5, 2000), (4, 2000), (5, 30), (5, 8), (5, 7), (5, 6), (3, 8), (3, 7), (5, 0)):
            self.assertEqual(parting([], one, other, size=size, most=most), plainruns.parting([], one, other, size, most), (size, most))
        self.assertEqual(LIMIT, 2000)

    def test_most_is_of_all_that_is_begun(self):
        rows = "module m\nseal t num\ntell get (fun m.t num)\ntell made (fun num m.t)\ntell up (fun m.t m.t)\nlet made (fun x x)\nlet get (fun x x)\nlet up (fun x (add x {}))"
        one, other = module_in(rows.format("1")), module_in(rows.format("2"))
        for size, user in ((7, "(call m.get (call m.up (call m.made 0)))"), (9, "(call m.get (call m.up (call m.made 0)))")):
            # call, from, fun, and likewise twice; 0, x, add, x, 1, x
            self.assertEqual(used([one], term_in(user))[1], 15)
            self.assertEqual(parting([], one, other, size=size, most=15), term_in(user))
            self.assertIsNone(parting([], one, other, size=size, most=14))
        rows = rows.replace("(add x {})", "(under x {} 0 5)")
        one, other = module_in(rows.format("0")), module_in(rows.format("6"))
        # up of up: 5 and 0; of what is up but once likewise
        self.assertEqual(parting([], one, other, size=7, most=16), term_in("(call m.get (call m.up (call m.made 0)))"))
        self.assertIsNone(parting([], one, other, size=9, most=15))

    def test_most_left_out(self):
        # just within LIMIT, or one step beyond
        rows = "module m\ntell a num\nlet w (fun n (under n 1 {} (call w (less n 1))))\nlet a (call w {})"
        other = module_in(rows.format("7", "0"))
        for n in range(215, 225):
            one = module_in(rows.format("0", str(n)))
            steps = used([one], ("from", "m", "a"), most=5000)[1]
            self.assertEqual(parting([], one, other) is None, steps > 2000)
            self.assertEqual(parting([], one, other, most=steps), ("from", "m", "a"))
            self.assertIsNone(parting([], one, other, most=steps - 1))

    def test_ahead(self):
        ahead = whole_of("module k\nseal s num\ntell made k.s\ntell out (fun k.s num)\nlet made 4\nlet out (fun x x)")
        rows = "module m\nuses k\ntell back (fun k.s num)\ntell now k.s\nlet now k.made\nlet back (fun x {})"
        one, other = module_in(rows.format("(call k.out x)")), module_in(rows.format("(add 1 (call k.out x))"))
        for made in (ahead, tuple(ahead)):
            self.assertEqual(parting(made, one, other), term_in("(call m.back m.now)"))
            self.assertIsNone(parting(made, one, one))
        kept = copy.deepcopy((ahead, one, other))
        parting(ahead, one, other)
        self.assertEqual((ahead, one, other), kept)

    def test_refused_in_order(self):
        one = module_in("module m\ntell x num\nlet x 1")
        other = module_in("module m\ntell x num\nlet x 2")
        unlike = module_in("module m\ntell y num\nlet y 1")
        wrong = module_in("module m\ntell x num\nlet x (rec)")
        worse = module_in("module m\ntell x num\nlet x (add 1 (rec))")
        bad = module_in("module k\nlet x y")
        for handed, told in (
            (([], one, unlike), ("Unlike", "m")), (([], one, module_in("module n\ntell x num\nlet x 1")), ("Unlike", "m")),
            (([], module_in("module n\ntell x num\nlet x 1"), one), ("Unlike", "n")), (([], one, module_in("module m\nseal t num\ntell x num\nlet x 1")), ("Unlike", "m")),
            (([bad], wrong, unlike), ("Unlike", "m")), (([bad], wrong, worse), ("Faulty", ("k", ("def", "x")))), (([], wrong, worse), ("Faulty", ("m", ("closed", "x")))),
            (([], worse, wrong), ("Faulty", ("m", ("def", "x")))), (([], one, worse), ("Faulty", ("m", ("def", "x")))), (([], worse, one), ("Faulty", ("m", ("def", "x")))),
            (([], one, other), ("from", "m", "x")), (([], one, module_in("module m\nseal t num\ntell x m.t\nlet x 1")), ("Unlike", "m")),
        ):
            self.assertEqual(refused(*handed), told)
            self.assertEqual(plainruns.parting(*handed), told)
            self.assertEqual(refused(*handed, size=1, most=0), told if isinstance(told, tuple) and told[0] != "from" else None)
        # uses, seals' insides and definitions may be otherwise
        more = module_in("module m\nuses k\ntell x num\nlet z 1\nlet x 2")
        self.assertEqual(refused([module_in("module k\nlet x 1")], one, more), ("from", "m", "x"))
        self.assertEqual(refused([], one, more), ("Faulty", ("m", ("use", "k"))))

    def test_by_their_names_alone(self):
        one = module_in("module m\ntell x num\nlet x 1")
        with self.assertRaises(TypeError):
            parting([], one, one, 3)
        self.assertEqual(parting([], one, module_in("module m\ntell x num\nlet x 2"), most=9, size=2), ("from", "m", "x"))

    def test_against_plain(self):
        chance = random.Random(98)
        found = {"None": 0, "Faulty": 0, "user": 0}
        for _ in range(1600):
            whole = likely_whole(chance)
            one = whole[-1]
            if faults(whole) and chance.random() < 0.8:
                continue
            defs = tuple((x, with_other_numbers(chance, term)) for x, term in one[4])
            other = one[:4] + (defs,)
            if len(one[3]) > 3:
                continue
            most = chance.choice((5, 9, 2000))
            told = refused(whole[:-1], one, other, size=3, most=most)
            self.assertEqual(told, plainruns.parting(whole[:-1], one, other, 3, most))
            found["None" if told is None else "Faulty" if told[0] == "Faulty" else "user"] += 1
        self.assertTrue(min(found.values()) > 20, found)

    def test_four_values_that_never_end(self):
        rows = ["module m", "tell f *0", "tell g *0", "tell h *0", "tell r (rec a *0 b *1 c *2)", "let w (fun x (call w {}))"]
        rows = "\n".join(rows + ["let f (call w 1)", "let g (call w 1)", "let h (call w 1)", "let r (rec a f b g c h)"])
        self.assertIsNone(parting([], module_in(rows.format("x")), module_in(rows.format("1")), size=5, most=5000))


def with_other_numbers(chance, term):
    """The term with some numbers otherwise."""
    if term[0] == "num":
        return ("num", chance.choice((term[1], (term[1] + 1) % 99991)))
    if term[0] == "rec":
        return ("rec", tuple((label, with_other_numbers(chance, part)) for label, part in term[1]))
    if term[0] == "case":
        return ("case", with_other_numbers(chance, term[1]), tuple((label, x, with_other_numbers(chance, part)) for label, x, part in term[2]))
    return tuple(with_other_numbers(chance, item) if isinstance(item, tuple) else item for item in term)


class Answers(unittest.TestCase):
    def test_told_lists_are_ones_own(self):
        first = users(SEALED, size=5)
        again = list(first)
        first.reverse()
        first.append(None)
        self.assertEqual(users(SEALED, size=5), again)


if __name__ == "__main__":
    unittest.main()
