"""The texts of modules."""

from sealedkinds.errors import BadRow
from sealedkinds.kindtext import kind_text, read_kind
from sealedkinds.modules import is_sealable, is_tellable
from sealedkinds.names import are_rising_names, is_name
from sealedkinds.termtext import read_term, term_text

# The words that lead the rows, in the order in which they stand.
WORDS = ("module", "uses", "seal", "tell", "let")


def module_text(module):
    """The text of a module."""
    name, uses, seals, values, defs = module
    rows = [f"module {name}"]
    if uses:
        rows.append(" ".join(["uses"] + list(uses)))
    rows.extend([f"seal {seal} {kind_text(kind)}" for seal, kind in seals])
    rows.extend([f"tell {x} {kind_text(kind)}" for x, kind in values])
    rows.extend([f"let {x} {term_text(term)}" for x, term in defs])
    return "\n".join(rows)


def module_in(text):
    """The module of which this is the text; BadRow(row), the number of the first row that is wrong or lacks."""
    rows = text.split("\n")
    found = {word: [] for word in WORDS}
    for number, row in enumerate(rows):
        word, _, behind = row.partition(" ")
        item = item_in(word, behind, found) if may_stand(word, found) else None
        if item is None:
            raise BadRow(number)
        found[word].append(item)
    if not found["let"]:
        raise BadRow(len(rows))
    uses = found["uses"][0] if found["uses"] else ()
    return (found["module"][0], uses, tuple(found["seal"]), tuple(found["tell"]), tuple(found["let"]))


def may_stand(word, found):
    """Whether a row led by that word may stand behind the rows found."""
    if word not in found or (word != "module" and not found["module"]):
        return False
    behind = WORDS.index(word)
    if word == "module" or word == "uses":
        behind -= 1
    return not any([found[other] for other in WORDS[behind + 1:]])


def item_in(word, behind, found):
    """What stands behind the word, as a module has it; None where it isn't so written, or can't stand behind those."""
    if word == "module":
        return behind if is_name(behind) else None
    name = found["module"][0]
    if word == "uses":
        uses = behind.split(" ")
        return tuple(uses) if are_rising_names(uses) and name not in uses else None
    label, _, text = behind.partition(" ")
    ahead = [item[0] for item in found[word]]
    if not is_name(label) or label in ahead or (word != "let" and ahead and label < ahead[-1]):
        return None
    if word == "let":
        thing = read_term(text)
        return None if thing is None else (label, thing)
    kind = read_kind(text)
    if word == "seal":
        return (label, kind) if is_sealable(kind) else None
    return (label, kind) if is_tellable(kind, name, [seal[0] for seal in found["seal"]]) else None
