"""The texts of terms."""

from sealedkinds.brackets import read_brackets
from sealedkinds.errors import BadText
from sealedkinds.names import is_name, number_in
from sealedkinds.terms import MOST, is_made_as_term, layout_of, term_of, term_parts, with_items
from sealedkinds.walking import folded

# Longer figures than these can't stand in a term, so they needn't be read.
MOST_FIGURES = 5
# Heads whose texts stand in no brackets.
BARE = ("num", "name", "from", "hole")


def term_text(term):
    """The text of a term."""
    return folded(term, term_parts, text_by_parts)


def text_by_parts(term, texts):
    """The text of a term by the texts of its parts."""
    head = term[0]
    if head == "num":
        return str(term[1])
    if head == "name":
        return term[1]
    if head == "from":
        return f"{term[1]}.{term[2]}"
    if head == "hole":
        return "?"
    return "(" + " ".join([head] + with_items(term, texts)) + ")"


def term_in(text):
    """The term of which this is the text; BadText(text)."""
    term = read_term(text)
    if term is None:
        raise BadText(text)
    return term


def read_term(text):
    """The term of which this is the text; None where there's none."""
    return as_term(read_brackets(text, bracket_term))


def as_term(item):
    """The term for which a word stands, None where it stands for none; what is no word, as it is."""
    if not isinstance(item, str):
        return item
    if is_name(item):
        return ("name", item)
    if item == "?":
        return ("hole",)
    if "." in item:
        module, _, name = item.partition(".")
        return ("from", module, name) if is_name(module) and is_name(name) else None
    number = number_in(item) if len(item) <= MOST_FIGURES else None
    return ("num", number) if number is not None and number <= MOST else None


def bracket_term(items):
    """The term for which a bracket of these stands, None where it stands for none."""
    head = items[0]
    behind = items[1:]
    layout = layout_of(head, len(behind))
    if len(layout) != len(behind) or head in BARE:
        return None
    for k, sign in enumerate(layout):
        if sign == "t":
            behind[k] = as_term(behind[k])
            if behind[k] is None:
                return None
    term = term_of(head, behind)
    return term if is_made_as_term(term) else None
