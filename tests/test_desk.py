import copy
import random
import unittest

from sealedkinds import errors
from sealedkinds.desk import DEEP, Desk
from sealedkinds.errors import BadRow, Busy, NoModule, NoValue
from sealedkinds.house import House
from sealedkinds.joined import faults
from sealedkinds.kindtext import kind_text
from sealedkinds.mends import mends
from sealedkinds.modules import face_of
from sealedkinds.moduletext import module_text
from sealedkinds.terms import with_at
from sealedkinds.termtext import term_in, term_text
from sealedkinds.users import parting
from tests.chancemodules import likely_module
from tests.test_deskrows import WRONG, plain_row
from tests.test_house import mod

ALL = tuple(getattr(errors, name) for name in vars(errors) if name[0].isupper())


def refused(asked, *handed, **more):
    """What is told, or (class's name, what)."""
    try:
        return asked(*handed, **more)
    except ALL as refusal:
        return (type(refusal).__name__, refusal.what)


def desk_of(*texts, **more):
    desk = Desk(**more)
    for text in texts:
        desk.ask("put module " + text)
    return desk


COUNTER = "m / seal t num / tell get (fun m.t num) / tell new m.t / tell up (fun m.t m.t) / let new 0 / let get (fun x x) / let up (fun x (add x 1))"
USER = "n / uses m / tell two num / let two (call m.get (call m.up (call m.up m.new))) / let w (fun n (call w n)) / let loop (call w 1)"


def many_text(texts, between=" "):
    return between.join(texts) or "-"


def plain_worth(worth):
    if worth[0] == "rec":
        return "(" + " ".join(["rec"] + [f"{label} {plain_worth(part)}" for label, part in worth[1]]) + ")"
    if worth[0] == "tag":
        return f"(tag {worth[1]} {plain_worth(worth[2])})"
    return str(worth[1]) if worth[0] == "num" else "fun"


def plain_faults(pairs):
    return many_text([f"{name}:{fault[0]}:{fault[1]}" for name, fault in pairs])


def plain_answer(house, most, text):
    """The answer to a row, by the house."""
    row = plain_row(text)
    if row is None or row[0] == "again":
        raise BadRow(text)
    word, behind = row[0], row[1:]
    if word in ("put", "would"):
        edition, looked, broken, mended = getattr(house, word)(behind[0])
        told = f"{many_text([f'{name}.{x}' for name, x in looked])} | {plain_faults(broken)} | {many_text(mended)}"
        return f"{edition} {told}" if word == "put" else told
    if word == "drop":
        house.drop(behind[0])
        return "done"
    if word == "undo":
        return "done" if house.undo() else "none"
    if word == "names":
        return many_text(house.names())
    if word == "faults":
        return plain_faults([(name, house.fault(name)) for name in house.names() if house.fault(name)])
    if word == "use":
        return "{} {}".format(*house.used(behind[0], most=most))
    if word == "run":
        worth, steps = house.ran(*behind, most=most)
        return f"{plain_worth(worth)} {steps}"
    module = house.module(behind[0])
    if word == "text":
        return module_text(module).replace("\n", " / ")
    if word == "users":
        return many_text(house.users_of(behind[0]))
    if word == "editions":
        return str(house.editions(behind[0]))
    if word == "fault":
        return many_text(house.fault(behind[0]) or ())
    if word == "kinds":
        return " ; ".join(f"{x} {kind_text(what) if state == 'kind' else state}" for x, state, what in house.states(behind[0]))
    if word == "mends":
        return plain_mends(house, module, behind[1])
    other = house.as_of(*behind)
    ahead = []
    for part in house.whole():
        if part == module:
            break
        ahead.append(part)
    user = parting(ahead, module, other, most=most)
    return "-" if user is None else term_text(user)


def plain_mends(house, module, x):
    if x not in [y for y, _ in module[4]]:
        raise NoValue(x)
    known = [((use, y), kind) for use in module[1] for y, kind in house.module(use)[3]]
    for (y, term), (_, state, what) in zip(module[4], house.states(module[0])):
        if y == x:
            places = mends(term, known, own=x)
            return many_text([term_text(with_at(term, place, ("hole",))) for place in places], " ; ")
        if state == "kind":
            known.append((y, what))


class PlainDesk:
    """Runs of a house by copies of it."""

    def __init__(self, most=2000):
        self.most, self.house, self.records = most, House(), []

    def run(self, rows, keep=False, deep=2):
        before = self.house.like()
        try:
            texts = self.within(list(rows), deep, 1)
        except ALL:
            self.house = before
            raise
        if not keep:
            self.house = before
        return texts

    def within(self, rows, deep, level):
        self.records.append(("begin", len(rows)))
        texts = []
        try:
            for k, text in enumerate(rows):
                row = plain_row(text)
                if row is not None and row[0] == "again":
                    if row[1] > k:
                        raise BadRow(text)
                    if level == deep:
                        raise Busy(deep)
                    self.within(rows[k - row[1]:k], deep, level + 1)
                    texts.append(str(row[1]))
                else:
                    texts.append(plain_answer(self.house, self.most, text))
        finally:
            self.records.append(("end", len(texts)))
        return texts


class Ask(unittest.TestCase):
    def told(self, desk, *pairs):
        for row, text in pairs:
            self.assertEqual(refused(desk.ask, row), text, row)

    def test_deeds(self):
        desk = Desk()
        face = "tell new m.t / let new 0"
        self.told(
            desk, ("names", "-"), ("undo", "none"), ("faults", "-"), ("put module " + COUNTER, "0 m.get m.new m.up | - | -"), ("put module " + USER, "0 n.loop n.two n.w | - | -"),
            ("put module z / uses m / let q m.new / let p m.q", "0 z.q | - | -"), ("would module m / seal t num / " + face, "- | n:def:two | -"),
            ("put module m / seal t num / " + face, "1 - | n:def:two | -"), ("would module " + COUNTER, "- | - | n"), ("put module a / uses m n / let x n.two", "0 a.x | - | -"),
            ("would module m / tell new num / let new (rec)", "m.new z.q | - | -"), ("put module m / tell q num / let q 1", "2 m.q z.p | - | -"),
            ("faults", "n:def:two z:def:q"), ("put module " + COUNTER, "3 - | - | n"), ("put module m / tell new num / let q 1", "4 z.q | n:def:two | -"),
            ("undo", "done"), ("drop m", ("InUse", "a")), ("drop a", "done"), ("drop n", "done"), ("drop z", "done"), ("drop m", "done"), ("names", "-"), ("drop m", ("NoModule", "m")),
            ("put module " + COUNTER, "4 - | - | -"), ("names", "m"),
        )

    def test_put_texts_of_several(self):
        desk = desk_of("m / tell a num / tell b num / let a 1 / let b 2", "p / uses m / let x m.a", "q / uses m / let y (add m.a m.b)", "r / uses m / tell z num / let z m.b")
        self.told(
            desk, ("would module m / let a 1", "- | p:def:x q:def:y r:def:z | -"), ("put module m / seal s num / tell a m.s / tell b (rec) / let a 1 / let b (rec)", "1 m.b p.x q.y r.z | q:def:y r:closed:z | -"),
            ("put module r / uses k / let x 1", ("NoModule", "k")), ("put module m / uses p / let x 1", ("Ring", "p")), ("put module m / tell a num / tell b num / let a 1 / let b 2", "2 m.b p.x q.y r.z | - | q r"),
        )

    def test_questions(self):
        desk = desk_of(COUNTER, USER, "o / uses m / tell x m.q / let a (call m.get 1) / let b a / let c c.x / let d m.new")
        self.told(
            desk, ("names", "m n o"), ("text n", "module " + USER), ("text m", "module " + COUNTER), ("users m", "n o"), ("users n", "-"), ("editions m", "1"), ("fault m", "-"),
            ("fault o", "told x"), ("faults", "o:told:x"), ("kinds m", "new num ; get (fun *0 *0) ; up (fun num num)"), ("kinds o", "a clash ; b leans ; c unknown ; d m.t"),
            ("kinds n", "two num ; w (fun *0 *1) ; loop *0"),
            ("drop o", "done"), ("faults", "-"), ("run n two", "2 18"), ("run m up", "fun 1"), ("use n.two", "2 19"), ("use (add n.two n.two)", "4 39"), ("use 7", "7 1"),
            ("parts m 0", "-"), ("run n loop", ("TooLong", 2000)), ("use (call m.get 1)", ("Clash", ())), ("use n.loop", ("Unknown", ())), ("use (rec)", ("NotNum", ("rec", (), None))),
            ("run n q", ("NoValue", "q")), ("run q n", ("NoModule", "q")),
        )

    def test_worths(self):
        desk = desk_of("m / let a (rec) / let b (rec x 1 y (rec z (fun x x))) / let c (tag a (tag b (rec l 99990))) / let d (fun x x) / let e 0")
        self.told(desk, ("run m a", "(rec) 1"), ("run m b", "(rec x 1 y (rec z fun)) 4"), ("run m c", "(tag a (tag b (rec l 99990))) 4"), ("run m d", "fun 1"), ("run m e", "0 1"))

    def test_mends(self):
        desk = desk_of("m / tell f (fun num num) / let f (fun x x) / let bad (add (rec) 1)", "n / uses m / let p (rec a 1) / let x (add (call m.f p) p) / let y (call 1 2) / let z x / let p2 1".replace("p2", "q"),
                       "o / let r (fun n (add (call r 1) (call r (rec))))")
        self.told(
            desk, ("mends n p", "-"), ("mends n q", "-"), ("mends m bad", "(add ? 1)"), ("mends n y", "(call ? 2)"), ("mends n z", ("Unknown", ())),
            ("mends n two", ("NoValue", "two")), ("mends q x", ("NoModule", "q")), ("mends q q", ("NoModule", "q")), ("mends o r", "(fun n (add (call ? 1) (call r (rec)))) ; (fun n (add (call r ?) (call r (rec)))) ; "
             "(fun n (add (call r 1) (call ? (rec)))) ; (fun n (add (call r 1) (call r ?)))"),
        )
        self.told(desk, ("put module k / let early (add late 1) / let late 1", "0 k.late | - | -"), ("mends k early", ("Unknown", (0,))), ("mends k late", "-"))
        # both p are out: the whole alone mends
        self.told(desk, ("mends n x", "?"))

    def test_parts(self):
        desk = desk_of("k / tell one num / let one 1", COUNTER, "z / let x 1")
        more = COUNTER.replace("(add x 1)", "(add x 2)")
        again = COUNTER.replace("let new 0", "let new 5")
        self.told(
            desk, ("put module " + more, "1 m.up | - | -"), ("parts m 0", "-"), ("parts m 1", "-"), ("put module " + again, "2 m.new m.up | - | -"), ("parts m 0", "(call m.get m.new)"),
            ("parts m 2", "-"), ("parts m 3", ("NoEdition", 3)), ("parts m 5000", ("NoEdition", 5000)), ("parts q 0", ("NoModule", "q")), ("parts q 9", ("NoModule", "q")),
            ("put module m / tell new num / let new 5", "3 - | - | -"), ("parts m 0", ("Unlike", "m")), ("put module m / uses k / tell new num / let new k.one", "4 m.new | - | -"),
            ("parts m 3", "m.new"), ("parts m 4", "-"), ("put module m / uses k / tell new num / let new k.two", "5 - | - | -"), ("parts m 3", ("Faulty", ("m", ("def", "new")))),
            ("parts m 5", ("Faulty", ("m", ("def", "new")))), ("put module m / tell new num / let new 6", "6 m.new | - | -"),
            # m stands behind k in the whole, so it may be used; z stands behind it
            ("parts m 4", "m.new"), ("parts m 5", ("Faulty", ("m", ("def", "new")))), ("put module k / tell one num / let one (rec)", "1 k.one | - | -"),
            ("parts m 4", ("Faulty", ("k", ("closed", "one")))), ("drop k", "done"), ("parts m 4", ("Faulty", ("m", ("use", "k")))),
        )
        desk = desk_of("z / tell x num / let x 1", "m / uses z / tell y num / let y z.x", "m / tell y num / let y 1")
        # now m stands ahead of z: what the other edition uses isn't ahead
        self.told(desk, ("names", "m z"), ("parts m 0", ("Faulty", ("m", ("use", "z")))))

    def test_bad_rows_and_again(self):
        desk = desk_of(COUNTER)
        for row in WRONG + ("again 1", "again 5000"):
            self.assertEqual(refused(desk.ask, row), ("BadRow", row))
        self.assertEqual(desk.log(), [])

    def test_most(self):
        desk = desk_of(COUNTER, USER, most=18)
        self.told(desk, ("run n two", "2 18"), ("use n.two", ("TooLong", 18)), ("run n loop", ("TooLong", 18)))
        desk = desk_of(COUNTER, USER, most=19)
        self.told(desk, ("use n.two", "2 19"))
        self.assertEqual(desk.run(["use n.two"]), ["2 19"])
        loop = "q / tell x num / let w (fun n (under n 1 {} (call w (less n 1)))) / let x (call w 30)"
        for most, text in ((278, "-"), (279, "q.x"), (2000, "q.x")):
            desk = desk_of(loop.format(0), loop.format(1), most=most)
            self.assertEqual(desk.ask("parts q 0"), text)
        with self.assertRaises(TypeError):
            Desk(5)


class Run(unittest.TestCase):
    ROWS = ("put module a / let x 1", "put module a / let x 2", "editions a", "run a x")

    def test_texts(self):
        for rows in (list(self.ROWS), self.ROWS):
            desk = Desk()
            kept = copy.deepcopy(rows)
            told = desk.run(rows)
            self.assertEqual(told, ["0 a.x | - | -", "1 a.x | - | -", "2", "2 1"])
            self.assertIsInstance(told, list)
            self.assertEqual(rows, kept)
            self.assertEqual(desk.ask("names"), "-")
            self.assertEqual(desk.run(rows, keep=True), told)
            self.assertEqual((desk.ask("names"), desk.ask("editions a"), desk.ask("run a x")), ("a", "2", "2 1"))
            self.assertEqual(desk.run([]), [])
            self.assertEqual(desk.log(), [("begin", 4), ("end", 4), ("begin", 4), ("end", 4), ("begin", 0), ("end", 0)])

    def test_kept_deeds_are_undone_one_by_one(self):
        desk = Desk()
        desk.run(self.ROWS, keep=True)
        self.assertEqual([desk.ask("undo"), desk.ask("run a x"), desk.ask("undo"), desk.ask("undo")], ["done", "1 1", "done", "none"])

    def test_taken_back_with_all_that_can_be_undone(self):
        desk = desk_of("a / let x 1", "a / let x 2", "b / let x 1")
        self.assertEqual(desk.run(["undo", "undo", "names", "put module c / let x 1", "undo", "undo", "undo", "names"]), ["done", "done", "a", "0 c.x | - | -", "done", "done", "none", "-"])
        self.assertEqual((desk.ask("names"), desk.ask("editions a")), ("a b", "2"))
        self.assertEqual([desk.ask("undo") for _ in range(4)], ["done", "done", "done", "none"])
        # looks, too
        desk = desk_of("a / let x 1")
        self.assertEqual(desk.run(["put module a / let x 2"]), ["1 a.x | - | -"])
        self.assertEqual(desk.ask("put module a / let x 1"), "1 - | - | -")

    def test_refused_in_the_midst(self):
        for keep in (False, True):
            for row, told, done in (("drop q", ("NoModule", "q"), 2), ("put module a / uses q / let x 1", ("NoModule", "q"), 2), ("again 3", ("BadRow", "again 3"), 2), ("again 0", ("BadRow", "again 0"), 2),
                                    ("", ("BadRow", ""), 2), ("run a x", ("Faulty", ("a", ("def", "x"))), 2), ("use 1", ("Faulty", ("a", ("def", "x"))), 2), ("text q", ("NoModule", "q"), 2),
                                    ("parts a 7", ("NoEdition", 7), 2), ("mends a x", ("Unknown", (0,)), 2), ("mends a z", ("NoValue", "z"), 2), ("drop k", ("InUse", "b"), 2)):
                desk = desk_of("k / let x 1", "b / uses k / let x 1")
                before = desk.house()
                rows = ["put module a / let x (add y (rec))", "put module c / let x 1", row, "drop c"]
                self.assertEqual(refused(desk.run, rows, keep=keep), told)
                self.assertIs(desk.is_open(), True)
                self.assertEqual(desk.log(), [("begin", 4), ("end", done)])
                self.assertEqual(desk.house(), before)
                self.assertEqual(desk.ask("names"), "b k")
                self.assertEqual([desk.ask("undo") for _ in range(3)], ["done", "done", "none"])
                self.assertEqual(desk.run(["names"]), ["-"])

    def test_again(self):
        desk = desk_of("a / let x 1")
        rows = ["put module a / let x 1", "again 1", "editions a", "put module b / let x 1", "drop b", "again 2", "put module b / let x 1", "editions b"]
        self.assertEqual(desk.run(rows), ["1 - | - | -", "1", "3", "0 b.x | - | -", "done", "2", "2 - | - | -", "3"])
        self.assertEqual(desk.log(), [("begin", 8), ("begin", 1), ("end", 1), ("begin", 2), ("end", 2), ("end", 8)])
        self.assertEqual(desk.ask("editions a"), "1")
        self.assertEqual(desk.run(rows, keep=True)[7], "3")
        self.assertEqual((desk.ask("editions a"), desk.ask("editions b")), ("3", "3"))
        # all of it can be undone: the first put, two and their likes, four and the last
        self.assertEqual([desk.ask("undo") for _ in range(9)], ["done"] * 8 + ["none"])

    def test_again_rows_within(self):
        desk = desk_of("a / let x 1")
        put = "put module a / let x 1"
        # within, the row of `again` does what is ahead of it there
        rows = [put, put, "again 1", "again 3"]
        self.assertEqual(refused(desk.run, rows), ("Busy", 2))
        self.assertEqual(desk.log(), [("begin", 4), ("begin", 1), ("end", 1), ("begin", 3), ("end", 2), ("end", 3)])
        self.assertEqual(desk.run(rows + ["editions a"], deep=3), ["1 - | - | -", "2 - | - | -", "1", "3", "7"])
        self.assertEqual(desk.log()[6:], [("begin", 5), ("begin", 1), ("end", 1), ("begin", 3), ("begin", 1), ("end", 1), ("end", 3), ("end", 5)])
        # fewer are ahead there
        for rows, row in (([put, "again 1", "again 1"], "again 1"), ([put, put, "again 2", "again 2"], "again 2"), ([put, put, put, "again 2", "again 2"], "again 2")):
            for deep in (2, 3):
                self.assertEqual(refused(desk.run, rows, deep=deep), ("BadRow", row))
        self.assertEqual(refused(desk.run, [put, "again 1", "again 2", "again 3"], deep=3), ("Busy", 3))
        self.assertEqual(desk.run([put, "again 1", "again 2", "again 3", "editions a"], deep=4)[4], "9")
        self.assertEqual(desk.ask("editions a"), "1")

    def test_deep(self):
        self.assertEqual(DEEP, 2)
        rows = ["names", "again 1"]
        for deep in (2, 3):
            self.assertEqual(Desk().run(rows, deep=deep), ["-", "1"])
        self.assertEqual(Desk().run(rows), ["-", "1"])
        desk = Desk()
        self.assertEqual(refused(desk.run, rows, deep=1), ("Busy", 1))
        self.assertEqual(desk.log(), [("begin", 2), ("end", 1)])
        self.assertEqual(refused(desk.run, ["names", "again 2"], deep=1), ("BadRow", "again 2"))
        self.assertEqual(refused(desk.run, ["again 1"], deep=1), ("BadRow", "again 1"))
        self.assertEqual(refused(desk.run, rows + ["again 2"]), ("Busy", 2))
        self.assertIs(desk.is_open(), True)
        for handed in ((rows, True), (rows, False, 3)):
            with self.assertRaises(TypeError):
                desk.run(*handed)

    def test_refused_within(self):
        desk = desk_of("a / let x 1")
        put = "put module b / let x 1"
        for keep in (False, True):
            # the second time b isn't there any more
            self.assertEqual(refused(desk.run, ["put module c / let x 1", put, "drop b", "again 1", "names"], keep=keep), ("NoModule", "b"))
            self.assertEqual((desk.ask("names"), desk.is_open()), ("a", True))
        self.assertEqual(desk.log(), [("begin", 5), ("begin", 1), ("end", 0), ("end", 3)] * 2)

    def test_log_is_ones_own_and_house_too(self):
        desk = desk_of("a / let x 1")
        desk.run(["names"])
        log = desk.log()
        log.append(None)
        self.assertEqual(desk.log(), [("begin", 1), ("end", 1)])
        house = desk.house()
        self.assertIsInstance(house, House)
        house.put(mod("b / let x 1"))
        self.assertEqual(desk.ask("names"), "a")
        desk.ask("put module c / let x 1")
        self.assertEqual(house.names(), ["a", "b"])
        self.assertEqual([house.undo() for _ in range(3)], [True, True, False])
        self.assertEqual(desk.ask("names"), "a c")
        # the house that was told stays as it is, whatever is taken back
        told = desk.house()
        desk.run(["drop a", "drop c"])
        self.assertEqual(told, desk.house())
        self.assertIsNot(told, desk.house())
        self.assertIs(desk.is_open(), True)

    def test_desks_are_apart(self):
        one, other = desk_of("a / let x 1"), Desk()
        other.run(["put module b / let x 1"], keep=True)
        self.assertEqual((one.ask("names"), other.ask("names"), one.log()), ("a", "b", []))


class ByChance(unittest.TestCase):
    def row(self, chance, house):
        names = "abc"
        word = chance.choice(("put", "put", "put", "put", "would", "drop", "undo", "names", "text", "users", "editions", "fault", "faults", "kinds", "kinds", "mends", "mends", "run",
                              "run", "use", "parts", "parts", "bad"))
        name = chance.choice(names if chance.random() < 0.95 else ("q", "A", ""))
        if word in ("put", "would"):
            known = [house.module(other) for other in house.names() if other < name]
            return f"{word} " + module_text(likely_module(chance, name or "a", known)).replace("\n", " / ") if name != "A" else "put module A / let x 1"
        if word in ("mends", "run"):
            return f"{word} {name} {chance.choice('fghx')}"
        if word == "use":
            froms = [f"{m}.{x}" for m in house.names() for x, _ in house.module(m)[3]] or ["1"]
            return "use " + chance.choice(("{}", "(add {} 1)", "(call {} 1)", "(get {} a)")).format(chance.choice(froms))
        if word == "parts":
            return f"parts {name} {chance.randint(0, 2)}"
        if word == "bad":
            return chance.choice(WRONG)
        return f"{word} {name}" if word not in ("undo", "names", "faults") else word

    def test_ask(self):
        chance = random.Random(106)
        counts = {}
        for _ in range(200):
            most = chance.choice((8, 40, 2000))
            desk, house = Desk(most=most), House()
            for _ in range(30):
                row = self.row(chance, house)
                found = refused(desk.ask, row)
                self.assertEqual(found, refused(plain_answer, house, most, row), row)
                self.assertEqual(desk.house(), house)
                self.assertIs(desk.is_open(), True)
                key = found[0] if isinstance(found, tuple) else row.split(" ")[0]
                counts[key] = counts.get(key, 0) + 1
            self.assertEqual(desk.log(), [])
        for word in ("put", "would", "drop", "undo", "names", "text", "users", "editions", "fault", "faults", "kinds", "mends", "run", "use", "parts", "BadRow", "NoModule", "NoValue",
                     "NoEdition", "Faulty", "InUse", "Unlike", "Unknown", "Clash", "NotNum"):
            self.assertGreater(counts.get(word, 0), 3, counts)

    def test_run(self):
        chance = random.Random(107)
        counts = {}
        for _ in range(150):
            desk, plain = Desk(), PlainDesk()
            for _ in range(4):
                rows = []
                ahead = plain.house.like()
                for _ in range(chance.randint(0, 7)):
                    row = self.row(chance, ahead)
                    if chance.random() < 0.9 and not isinstance(refused(plain_answer, ahead.like(), 2000, row), tuple):
                        refused(plain_answer, ahead, 2000, row)
                    elif chance.random() < 0.8:
                        continue
                    rows.append(row)
                for _ in range(chance.randint(0, 3)):
                    at = chance.randint(0, len(rows))
                    rows.insert(at, f"again {chance.randint(1, at + 1 if chance.random() < 0.1 else max(1, at))}")
                keep, deep = chance.random() < 0.6, chance.choice((1, 2, 2, 3, 3, 3))
                found = refused(desk.run, rows, keep=keep, deep=deep)
                self.assertEqual(found, refused(plain.run, rows, keep, deep))
                self.assertEqual((desk.log(), desk.house(), desk.is_open()), (plain.records, plain.house, True))
                self.assertEqual(refused(desk.ask, "undo"), refused(plain_answer, plain.house, 2000, "undo"))
                counts[found[0] if isinstance(found, tuple) else "told"] = counts.get(found[0] if isinstance(found, tuple) else "told", 0) + 1
            while desk.ask("undo") == "done":
                self.assertIs(plain.house.undo(), True)
                self.assertEqual(desk.house(), plain.house)
        for word in ("told", "BadRow", "Busy", "NoModule"):
            self.assertGreater(counts.get(word, 0), 10, counts)


class Whole(unittest.TestCase):
    def test_refusals_of_the_desk(self):
        self.assertEqual([refusal.__bases__[0] for refusal in (BadRow, Busy, NoModule)], [ValueError, RuntimeError, LookupError])
        desk = desk_of(COUNTER, USER)
        self.assertEqual(faults(desk.house().whole()), [])
        self.assertEqual(face_of(desk.house().module("m"))[1], ("t",))
        self.assertEqual(desk.ask("use (add n.two 1)"), "{} {}".format(*desk.house().used(term_in("(add n.two 1)"))))


if __name__ == "__main__":
    unittest.main()
