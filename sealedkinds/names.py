"""Names, numbers, figures and rows of labels, for kinds and terms alike."""

LETTERS = "abcdefghijklmnopqrstuvwxyz"
FIGURES = "0123456789"

# Python's own str and int refuse numbers of many thousand figures: longer ones go block by block.
BLOCK = 1000000000000000000
BLOCK_LENGTH = 18


def is_number(thing):
    """Whether it is a whole number, and neither True nor False."""
    return isinstance(thing, int) and not isinstance(thing, bool)


def is_name(thing):
    """Whether it is a text of one to eight letters a to z."""
    return isinstance(thing, str) and 1 <= len(thing) <= 8 and not thing.strip(LETTERS)


def all_names(things):
    """Whether all of them, a list or a tuple, are names."""
    for thing in things:
        if not isinstance(thing, str) or not 1 <= len(thing) <= 8:
            return False
    return not "".join(things).strip(LETTERS)


def are_rising_names(things):
    """Whether all of them, a list or a tuple, are names, each greater than the one ahead of it."""
    return all_names(things) and len(set(things)) == len(things) and sorted(things) == list(things)


def name_of(number):
    """The name of that number: a to z, then aa, ab and so on."""
    letters = []
    while number >= 0:
        letters.append(LETTERS[number % len(LETTERS)])
        number = number // len(LETTERS) - 1
    return "".join(letters[::-1])


def fresh_name(names):
    """The first name that is none of these."""
    number = 0
    while name_of(number) in names:
        number += 1
    return name_of(number)


def is_row(thing, width):
    """Whether it is a tuple of tuples of so many things, each led by a label, the labels rising."""
    if not isinstance(thing, tuple):
        return False
    for item in thing:
        if not isinstance(item, tuple) or len(item) != width:
            return False
    return are_rising_names([item[0] for item in thing])


def figures_of(number):
    """A number from 0 on in figures."""
    blocks = []
    while number >= BLOCK:
        number, block = divmod(number, BLOCK)
        blocks.append(f"{block:018d}")
    blocks.append(str(number))
    return "".join(blocks[::-1])


def number_in(text):
    """The number that stands there in figures, without a nought ahead; None where none does."""
    if not text or text.strip(FIGURES) or (text[0] == "0" and text != "0"):
        return None
    if len(text) <= BLOCK_LENGTH:
        return int(text)
    first = len(text) % BLOCK_LENGTH
    number = int("0" + text[:first])
    for start in range(first, len(text), BLOCK_LENGTH):
        number = number * BLOCK + int(text[start:start + BLOCK_LENGTH])
    return number
