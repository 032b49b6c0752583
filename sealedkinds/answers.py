"""What a desk answers to its rows, all but those of `again`.

An answer takes the house, how many steps runs may take, and the row, a tuple of its first word and what stands behind.
It is refused as the house's methods are.
"""

from sealedkinds.apart import known_by
from sealedkinds.deskrows import BETWEEN
from sealedkinds.errors import NoValue
from sealedkinds.kindtext import kind_text
from sealedkinds.mends import mends
from sealedkinds.modules import face_of
from sealedkinds.moduletext import module_text
from sealedkinds.terms import with_at
from sealedkinds.termtext import term_text
from sealedkinds.users import parting
from sealedkinds.walking import folded
from sealedkinds.worths import worth_parts

NOTHING = "-"


def answer_to(house, most, row):
    """The text that answers the row."""
    answer = ANSWERS[row[0]]
    return answer(house, most, row)


def joined_by(between, texts):
    """The texts parted so; the sign of nothing where there are none."""
    return between.join(texts) if texts else NOTHING


def faults_text(pairs):
    """The text of a list of (M, fault)."""
    return joined_by(" ", [f"{name}:{word}:{what}" for name, (word, what) in pairs])


def deed_text(told):
    """The text of what was looked at, broken and mended."""
    looked, broken, mended = told
    looks = joined_by(" ", [f"{name}.{x}" for name, x in looked])
    return " | ".join([looks, faults_text(broken), joined_by(" ", mended)])


def worth_text(worth, texts):
    """The text of a worth by the texts of its parts."""
    if worth[0] == "num":
        return str(worth[1])
    if worth[0] == "tag":
        return f"(tag {worth[1]} {texts[0]})"
    if worth[0] == "fun":
        return "fun"
    pairs = [f" {pair[0]} {text}" for pair, text in zip(worth[1], texts)]
    return "(rec" + "".join(pairs) + ")"


def put_answer(house, most, row):
    """The edition, and what the put did."""
    edition, looked, broken, mended = house.put(row[1])
    return f"{edition} {deed_text((looked, broken, mended))}"


def would_answer(house, most, row):
    """What a put would do."""
    return deed_text(house.would(row[1])[1:])


def drop_answer(house, most, row):
    """That it's done."""
    house.drop(row[1])
    return "done"


def undo_answer(house, most, row):
    """Whether there was something."""
    return "done" if house.undo() else "none"


def names_answer(house, most, row):
    """The names of all modules."""
    return joined_by(" ", house.names())


def text_answer(house, most, row):
    """The text of a module."""
    return module_text(house.module(row[1])).replace("\n", BETWEEN)


def users_answer(house, most, row):
    """The names of those that use a module."""
    return joined_by(" ", house.users_of(row[1]))


def editions_answer(house, most, row):
    """How many editions there are of a module."""
    return str(house.editions(row[1]))


def fault_answer(house, most, row):
    """The fault of a module."""
    return joined_by(" ", house.fault(row[1]))


def faults_answer(house, most, row):
    """The faults of all modules."""
    pairs = [(name, house.fault(name)) for name in house.names()]
    return faults_text([(name, fault) for name, fault in pairs if fault is not None])


def kinds_answer(house, most, row):
    """The kinds of a module's definitions, or why they have none."""
    texts = []
    for x, word, what in house.states(row[1]):
        shown = kind_text(what) if word == "kind" else word
        texts.append(f"{x} {shown}")
    return joined_by(" ; ", texts)


def mends_answer(house, most, row):
    """A definition with a hole at each place that mends it; NoModule, NoValue(x), Unknown."""
    _, name, x = row
    module = house.module(name)
    terms = {y: term for y, term in module[4]}
    if x not in terms:
        raise NoValue(x)
    known = known_by(module, [face_of(house.module(use)) for use in module[1]])
    ahead = list(terms).index(x)
    known.update({y: kind for y, word, kind in house.states(name)[:ahead] if word == "kind"})
    places = mends(terms[x], list(known.items()), own=x)
    return joined_by(" ; ", [term_text(with_at(terms[x], place, ("hole",))) for place in places])


def run_answer(house, most, row):
    """The worth of a definition, and its steps."""
    worth, steps = house.ran(row[1], row[2], most=most)
    return f"{folded(worth, worth_parts, worth_text)} {steps}"


def use_answer(house, most, row):
    """The number of a user, and its steps."""
    number, steps = house.used(row[1], most=most)
    return f"{number} {steps}"


def parts_answer(house, most, row):
    """The user that parts the last edition of a module and another; NoModule, NoEdition(N), then as parting."""
    _, name, edition = row
    one = house.module(name)
    other = house.as_of(name, edition)
    modules = house.whole()
    user = parting(modules[:modules.index(one)], one, other, most=most)
    return NOTHING if user is None else term_text(user)


ANSWERS = {
    "put": put_answer, "would": would_answer, "drop": drop_answer, "undo": undo_answer, "names": names_answer,
    "text": text_answer, "users": users_answer, "editions": editions_answer, "fault": fault_answer,
    "faults": faults_answer, "kinds": kinds_answer, "mends": mends_answer, "run": run_answer, "use": use_answer,
    "parts": parts_answer,
}
