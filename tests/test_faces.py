import copy
import itertools
import random
import unittest

from sealedkinds.apart import fault_of
from sealedkinds.faces import broken_user, face_comes
from sealedkinds.kinds import deep_of, size_of, told
from sealedkinds.kindtext import kind_in
from sealedkinds.modules import face_of, is_face, is_module
from sealedkinds.moduletext import module_text
from tests import plain, plainmodules
from tests.chancemodules import chance_module, likely_whole
from tests.test_opening import COME, DONT_COME
from tests.things import chance_kind

NUM = ("num",)
# (kind, another one): of a deep kind and that kind with one thing otherwise
DEEP = "(fun (rec a (sum l k.s m (fun *0 (rec b *0 c m.t))) d *1 *2) (sum p (fun num *1) q (rec r k.z)))"


def face(owns="", **kinds):
    return ("m", tuple(owns), tuple((x, told(kind_in(text))) for x, text in sorted(kinds.items())))


class FaceComes(unittest.TestCase):
    def either(self, new, old, there, back):
        self.assertIs(face_comes(new, old), there)
        self.assertIs(face_comes(old, new), back)

    def test_by_owns_and_values(self):
        full = face("st", a="m.s", b="(fun *0 *0)", c="num")
        self.either(full, full, True, True)
        self.either(full, face("st", a="m.s", c="num"), True, False)
        self.either(full, face("s", a="m.s", b="(fun *0 *0)", c="num"), True, False)
        self.either(full, face("t", b="(fun *0 *0)"), True, False)
        self.either(full, face(), True, False)
        self.either(face(), face(), True, True)
        self.either(full, face("u"), False, False)
        self.either(full, face(d="num"), False, False)
        self.either(full, face("st", a="m.s", b="(fun num num)", c="num"), True, False)
        self.either(full, face("st", a="m.s", b="(fun (rec *0) (rec *0))", c="num"), True, False)
        self.either(full, face("st", a="m.t", b="(fun *0 *0)", c="num"), False, False)
        self.either(full, face("st", a="m.s", b="(fun *0 *0)", d="num"), False, False)
        self.either(face(a="*0", b="num"), face(a="num", b="*0"), False, False)

    def test_by_the_kinds(self):
        for kind, other, _ in COME:
            kind, other = told(kind_in(kind)), told(kind_in(other))
            new, old = ("m", ("s", "t"), (("x", kind),)), ("m", ("s", "t"), (("x", other),))
            self.assertIs(face_comes(new, old), True)
        for kind, other in DONT_COME:
            kind, other = told(kind_in(kind)), told(kind_in(other))
            new, old = ("m", ("s", "t"), (("x", kind),)), ("m", ("s", "t"), (("x", other),))
            self.assertIs(face_comes(new, old), False)

    def test_each_comes_to_one_that_has_less(self):
        chance = random.Random(70)
        for _ in range(200):
            whole = face_of(chance_module(chance))
            name, owns, values = whole
            self.assertIs(face_comes(whole, whole), True)
            fewer = (name, owns, tuple(value for value in values if chance.random() < 0.6))
            self.either(whole, fewer, True, fewer == whole)


class BrokenUser(unittest.TestCase):
    def looked(self, old, new):
        """What broken_user tells, looked at."""
        found = broken_user(old, new)
        comes = face_comes(new, old)
        self.assertIs(found is None, comes)
        if comes:
            return None
        self.assertIsInstance(found, tuple)
        module, faces = found
        self.assertIs(is_module(module), True)
        self.assertIsInstance(faces, list)
        names = [old[0], module[0]]
        for other in faces:
            self.assertIs(is_face(other), True)
            self.assertEqual(other[2], ())
            names.append(other[0])
        self.assertEqual(len(set(names)), len(names))
        for place in range(len(faces) + 1):
            self.assertIsNone(fault_of(module, faces[:place] + [old] + faces[place:]), module_text(module))
            self.assertIsNotNone(fault_of(module, faces[:place] + [new] + faces[place:]), module_text(module))
        self.assertIsNone(plainmodules.fault_of(module, [old] + faces))
        self.assertIsNotNone(plainmodules.fault_of(module, [new] + faces))
        return found

    def test_lost_owns(self):
        for old, new in ((face("s"), face()), (face("st"), face("s")), (face("st"), face("t")), (face("s"), face("t")),
                         (face("st", x="(fun m.s m.t)"), face("s", x="(fun m.s m.s)")), (face("s", x="num"), face(x="num"))):
            self.assertIsNotNone(self.looked(old, new))
            self.assertIsNone(self.looked(old, old))

    def test_lost_values(self):
        for old, new in ((face(x="num"), face()), (face(x="num", y="*0"), face(x="num")), (face("s", x="m.s"), face("s")),
                         (face(x="k.s"), face()), (face(x="(fun k.s z.t)"), face(y="(fun k.s z.t)")), (face(x="num"), face("x"))):
            self.assertIsNotNone(self.looked(old, new))

    def test_other_kinds(self):
        for kind, other in DONT_COME:
            kind, other = told(kind_in(kind)), told(kind_in(other))
            owns = ("s", "t")
            self.assertIsNotNone(self.looked(("m", owns, (("x", other),)), ("m", owns, (("x", kind),))))
            self.assertIsNotNone(self.looked(("k", owns, (("w", NUM), ("x", other))), ("k", owns, (("w", NUM), ("x", kind), ("y", NUM)))))
        for kind, other, _ in COME:
            kind, other = told(kind_in(kind)), told(kind_in(other))
            self.assertIsNone(self.looked(("m", ("s", "t"), (("x", other),)), ("m", ("s", "t"), (("x", kind),))))

    def test_names(self):
        # told faces and users have names of their own, whatever stands in the kinds
        letters = [chr(ord("a") + k) for k in range(26)]
        pairs = tuple((name, ("own", name, "s")) for name in letters)
        for name in ("a", "b", "z", "m"):
            old = (name, ("s",), (("x", ("rec", pairs, None)),))
            module, faces = self.looked(old, (name, ("s",), (("x", NUM),)))
            self.assertNotIn(module[0], letters)
            self.assertEqual(sorted(other[0] for other in faces), sorted(set(letters) - {name}))
        letters = [one + two for one in "abc" for two in letters]
        pairs = tuple((name, ("own", name, "s")) for name in letters)
        self.assertNotIn(self.looked(("m", (), (("x", ("rec", pairs, None)),)), ("m", (), ()))[0][0], letters)
        self.assertNotEqual(self.looked(("aa", ("ab",), ()), ("aa", (), ()))[0][0], "aa")
        old = ("m", (), (("x", kind_in("(rec a a.s b a.t c b.s)")),))
        self.assertEqual(len(self.looked(old, ("m", (), ()))[1]), 2)

    def test_one_thing_otherwise_at_any_place(self):
        kind = kind_in(DEEP)
        for other in changed(kind):
            other = told(other)
            for one, two in ((kind, other), (other, kind)):
                self.looked(("m", ("s", "t"), (("x", one),)), ("m", ("s", "t"), (("x", two),)))

    def test_chance_faces(self):
        chance = random.Random(71)
        counts = {True: 0, False: 0}
        for _ in range(400):
            old, new = face_of(chance_module(chance)), face_of(chance_module(chance))
            counts[self.looked(old, new) is None] += 1
            some = tuple(chance.choice((value, (value[0], told(chance_kind(chance, 2, numbers=2))))) for value in old[2])
            some = (old[0], old[1] + ("z",), tuple(value for value in some if plainmodules.are_values((value,), old[0], old[1])))
            counts[self.looked(old, some) is None] += 1
        self.assertTrue(min(counts.values()) > 30, counts)

    def test_great_faces(self):
        chance = random.Random(72)
        many = 0
        while many < 60:
            kinds = []
            while len(kinds) < 4:
                kind = told(chance_kind(chance, 6))
                if 15 <= size_of(kind) <= 30 and deep_of(kind) <= 6:
                    kinds.append(kind)
            old = ("m", ("s", "t"), tuple(zip("abcd", kinds)))
            for new in ((old[0], old[1], old[2][:3]), (old[0], old[1], old[2][1:]), (old[0], ("t",), ()), old):
                self.looked(old, new)
                self.looked(new, old)
            for k, other in itertools.product(range(4), (NUM, ("any", 0), told(chance_kind(chance, 6)))):
                self.looked(old, (old[0], old[1], old[2][:k] + (("abcd"[k], other),) + old[2][k + 1:]))
            many += 1

    def test_nothing_is_changed(self):
        old, new = face("st", x="(fun m.s k.s)"), face("s")
        kept = copy.deepcopy((old, new))
        module, faces = broken_user(old, new)
        again = (module, list(faces))
        faces.append(None)
        self.assertEqual(broken_user(old, new), again)
        self.assertEqual((old, new), kept)

    def test_a_face_that_comes_breaks_no_user(self):
        chance = random.Random(73)
        many = 0
        for _ in range(600):
            whole = likely_whole(chance)
            module = whole[-1]
            faces = [face_of(other) for other in whole[:-1]]
            if not faces or fault_of(module, faces) is not None:
                continue
            for k, old in enumerate(faces):
                more = tuple((x, chance.choice((kind, opener(kind)))) for x, kind in old[2]) + (("zz", NUM),)
                new = (old[0], tuple(sorted(old[1] + ("new",))), more)
                self.assertIs(face_comes(new, old), True)
                self.assertIsNone(fault_of(module, faces[:k] + [new] + faces[k + 1:]))
                many += 1
        self.assertGreater(many, 100)


def opener(kind):
    """A told kind that comes to it: of a rec and a sum with a rest, else an any."""
    if kind[0] in ("rec", "sum") and kind[1]:
        return told((kind[0], tuple((label, ("any", k)) for k, (label, _) in enumerate(kind[1])), 50))
    return ("any", 0)


def changed(kind):
    """The kind with one thing otherwise, at any place in it."""
    found = [other for other in (NUM, ("any", 90), ("own", "k", "s"), ("own", "z", "z"), ("fun", NUM, NUM), ("rec", (), None), ("rec", (), 91),
                                 ("sum", (("a", NUM),), 92)) if other != kind]
    if kind[0] == "fun":
        found += [("fun", other, kind[2]) for other in changed(kind[1])] + [("fun", kind[1], other) for other in changed(kind[2])]
    if kind[0] in ("rec", "sum"):
        for k, (label, part) in enumerate(kind[1]):
            found += [(kind[0], kind[1][:k] + ((label, other),) + kind[1][k + 1:], kind[2]) for other in changed(part)]
            if len(kind[1]) > 1:
                found.append((kind[0], kind[1][:k] + kind[1][k + 1:], kind[2]))
        found.append((kind[0], kind[1] + (("zz", NUM),), kind[2]))
        found.append((kind[0], kind[1], None if kind[2] is not None else 93))
    return [other for other in found if plain.is_kind(other)]


if __name__ == "__main__":
    unittest.main()
