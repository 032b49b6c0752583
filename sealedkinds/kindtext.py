"""The texts of kinds."""

from sealedkinds.brackets import read_brackets
from sealedkinds.errors import BadText
from sealedkinds.kinds import is_kind, kind_parts
from sealedkinds.names import figures_of, number_in
from sealedkinds.walking import folded


def kind_text(kind):
    """The text of a kind."""
    return folded(kind, kind_parts, text_by_parts)


def text_by_parts(kind, texts):
    """The text of a kind by the texts of its parts."""
    head = kind[0]
    if head == "num":
        return "num"
    if head == "any":
        return star_text(kind[1])
    if head == "own":
        return f"{kind[1]}.{kind[2]}"
    words = [head]
    if head == "fun":
        words.extend(texts)
    else:
        for pair, text in zip(kind[1], texts):
            words.extend([pair[0], text])
        if kind[2] is not None:
            words.append(star_text(kind[2]))
    return "(" + " ".join(words) + ")"


def star_text(number):
    """The text of an any or of a rest."""
    return "*" + figures_of(number)


def kind_in(text):
    """The kind of which this is the text; BadText(text)."""
    # What is read may be no kind, or a kind with another text: it is looked at here alone.
    thing = as_kind(read_brackets(text, bracket_kind))
    if not is_kind(thing) or kind_text(thing) != text:
        raise BadText(text)
    return thing


def as_kind(item):
    """What a word stands for, perhaps no kind; what is no word, as it is."""
    if not isinstance(item, str):
        return item
    if item == "num":
        return ("num",)
    if item.startswith("*"):
        return ("any", number_in(item[1:]))
    module, _, name = item.partition(".")
    return ("own", module, name)


def bracket_kind(items):
    """What a bracket of these stands for, perhaps no kind; None where that's plain."""
    head = items[0]
    behind = items[1:]
    if head == "fun":
        return ("fun", *[as_kind(item) for item in behind])
    if head == "rec" or head == "sum":
        return bracket_row(head, behind)
    return None


def bracket_row(head, items):
    """Likewise the rec or sum of labels and kinds in turn, and perhaps a rest behind them."""
    rest = None
    if len(items) % 2 == 1:
        last = as_kind(items[-1])
        if last[0] != "any":
            return None
        rest = last[1]
    parts = [as_kind(item) for item in items[1::2]]
    return (head, tuple(zip(items[::2], parts)), rest)
