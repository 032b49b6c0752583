"""The texts of terms."""

from sealedkinds.brackets import read_brackets
from sealedkinds.errors import BadText
from sealedkinds.names import number_in
from sealedkinds.terms import is_term, layout_of, term_of, term_parts, with_items
from sealedkinds.walking import folded

# Longer figures than these can't stand in a term, so they needn't be read.
MOST_FIGURES = 5


def term_text(term):
    """The text of a term."""
    return folded(term, term_parts, text_by_parts)


def text_by_parts(term, texts):
    """The text of a term by the texts of its parts."""
    head = term[0]
    if head == "num":
        return str(term[1])
    if head == "name":
        return term[1]
    if head == "from":
        return f"{term[1]}.{term[2]}"
    if head == "hole":
        return "?"
    return "(" + " ".join([head] + with_items(term, texts)) + ")"


def term_in(text):
    """The term of which this is the text; BadText(text)."""
    # What is read may be no term, or a term with another text: it is looked at here alone.
    thing = as_term(read_brackets(text, bracket_term))
    if not is_term(thing) or term_text(thing) != text:
        raise BadText(text)
    return thing


def as_term(item):
    """What a word stands for, perhaps no term; what is no word, as it is."""
    if not isinstance(item, str):
        return item
    if item == "?":
        return ("hole",)
    if item[:1].isdigit():
        return ("num", number_in(item[:MOST_FIGURES + 1]))
    if "." in item:
        module, _, name = item.partition(".")
        return ("from", module, name)
    return ("name", item)


def bracket_term(items):
    """What a bracket of these stands for, perhaps no term; None where that's plain."""
    head = items[0]
    if not isinstance(head, str):
        return None
    behind = items[1:]
    layout = layout_of(head, len(behind))
    if len(layout) != len(behind):
        return None
    return term_of(head, [as_term(item) if sign == "t" else item for sign, item in zip(layout, behind)])
