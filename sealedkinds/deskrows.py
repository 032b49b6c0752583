"""The rows of a desk."""

from sealedkinds.errors import BadRow
from sealedkinds.moduletext import module_in
from sealedkinds.names import is_name, number_in
from sealedkinds.termtext import read_term

# What parts the rows of a module where it stands in a row.
BETWEEN = " / "

MOST = 5000
# Longer figures than these can't stand in a row, so they needn't be read.
MOST_FIGURES = 4

# What stands behind each word: a module, a term, names, and numbers from 0 or from 1 on.
LAYOUTS = {
    "put": ("module",), "would": ("module",), "drop": ("name",), "undo": (), "names": (), "text": ("name",),
    "users": ("name",), "editions": ("name",), "fault": ("name",), "faults": (), "kinds": ("name",),
    "mends": ("name", "name"), "run": ("name", "name"), "use": ("term",), "parts": ("name", "from 0"),
    "again": ("from 1",),
}


def deskrow_in(text):
    """A tuple of the row's first word and what stands behind it; BadRow(text)."""
    words = text.split(" ")
    layout = LAYOUTS.get(words[0])
    if layout is None or "\n" in text:
        raise BadRow(text)
    if layout == ("module",) or layout == ("term",):
        words = text.split(" ", 1)
    items = [item_in(sort, word) for sort, word in zip(layout, words[1:])]
    if len(words) != 1 + len(layout) or None in items:
        raise BadRow(text)
    return (words[0], *items)


def item_in(sort, text):
    """What stands there, of that sort; None where it isn't so written."""
    if sort == "module":
        return read_module(text)
    if sort == "term":
        return read_term(text)
    if sort == "name":
        return text if is_name(text) else None
    number = number_in(text) if len(text) <= MOST_FIGURES else None
    if number is None or number > MOST or (sort == "from 1" and number == 0):
        return None
    return number


def read_module(text):
    """The module of which this is the text, its rows parted as in a row; None where there's none."""
    try:
        return module_in(text.replace(BETWEEN, "\n"))
    except BadRow:
        return None
