"""The texts of kinds."""

from sealedkinds.brackets import read_brackets
from sealedkinds.errors import BadText
from sealedkinds.kinds import kind_parts, stands_as_before
from sealedkinds.names import are_rising_names, figures_of, is_name, number_in
from sealedkinds.walking import folded


def kind_text(kind):
    """The text of a kind."""
    return folded(kind, kind_parts, text_by_parts)


def text_by_parts(kind, texts):
    """The text of a kind by the texts of its parts."""
    head = kind[0]
    if head == "num":
        return "num"
    if head == "any":
        return star_text(kind[1])
    if head == "own":
        return f"{kind[1]}.{kind[2]}"
    words = [head]
    if head == "fun":
        words.extend(texts)
    else:
        for pair, text in zip(kind[1], texts):
            words.extend([pair[0], text])
        if kind[2] is not None:
            words.append(star_text(kind[2]))
    return "(" + " ".join(words) + ")"


def star_text(number):
    """The text of an any or of a rest."""
    return "*" + figures_of(number)


def kind_in(text):
    """The kind of which this is the text; BadText(text)."""
    kind = read_kind(text)
    if kind is None:
        raise BadText(text)
    return kind


def read_kind(text):
    """The kind of which this is the text; None where there's none."""
    ways = {}
    return as_kind(read_brackets(text, lambda items: bracket_kind(items, ways)), ways)


def as_kind(item, ways):
    """The kind for which a word stands, None where it stands for none; what is no word, as it is.

    Its number has to stand as in the ways met so far, which then know it.
    """
    if not isinstance(item, str):
        return item
    if item == "num":
        return ("num",)
    if item.startswith("*"):
        kind = ("any", number_in(item[1:]))
        return kind if kind[1] is not None and stands_as_before(kind, ways) else None
    module, _, name = item.partition(".")
    return ("own", module, name) if is_name(module) and is_name(name) else None


def bracket_kind(items, ways):
    """The kind for which a bracket of these stands, None where it stands for none; numbers likewise."""
    head = items[0]
    if head == "fun" and len(items) == 3:
        left = as_kind(items[1], ways)
        right = as_kind(items[2], ways)
        return None if left is None or right is None else (head, left, right)
    if head != "rec" and head != "sum":
        return None
    rest = None
    if len(items) % 2 == 0:
        last = items.pop()
        if not isinstance(last, str) or not last.startswith("*"):
            return None
        rest = number_in(last[1:])
        if rest is None:
            return None
    labels = items[1::2]
    parts = [as_kind(item, ways) for item in items[2::2]]
    kind = (head, tuple(zip(labels, parts)), rest)
    if None in parts or not are_rising_names(labels) or (head == "sum" and not labels):
        return None
    return kind if stands_as_before(kind, ways) else None
