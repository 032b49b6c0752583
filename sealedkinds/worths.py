"""Worths: what is one, and whether it fits a kind."""

from sealedkinds.names import is_name, is_number, is_row
from sealedkinds.terms import MOST


def worth_parts(worth):
    """The worths straight in a worth, from left to right."""
    if worth[0] == "rec":
        return [pair[1] for pair in worth[1]]
    if worth[0] == "tag":
        return [worth[2]]
    return []


def with_worths(worth, parts):
    """The worth with other worths for those straight in it, a function without what is in it."""
    if worth[0] == "rec":
        labels = [pair[0] for pair in worth[1]]
        return ("rec", tuple(zip(labels, parts)))
    if worth[0] == "tag":
        return ("tag", worth[1], parts[0])
    return ("fun",) if worth[0] == "fun" else worth


def is_worth(thing):
    """Whether the thing is a worth."""
    todo = [thing]
    while todo:
        part = todo.pop()
        if not is_made_as_worth(part):
            return False
        todo.extend(worth_parts(part))
    return True


def is_made_as_worth(thing):
    """Whether the thing is a worth if what stands where its parts stand are worths."""
    if not isinstance(thing, tuple) or not thing:
        return False
    head = thing[0]
    if head == "num":
        return len(thing) == 2 and is_number(thing[1]) and 0 <= thing[1] <= MOST
    if head == "rec":
        return len(thing) == 2 and is_row(thing[1], 2)
    if head == "tag":
        return len(thing) == 3 and is_name(thing[1])
    return head == "fun" and len(thing) == 1


def fits(kind, worth):
    """Whether the worth fits the kind."""
    todo = [(kind, worth)]
    while todo:
        one, two = todo.pop()
        head = one[0]
        if head == "rec":
            if two[0] != "rec" or not has_pairs(one, two, todo):
                return False
        elif head == "sum":
            kinds = dict(one[1])
            if two[0] != "tag" or two[1] not in kinds:
                return False
            todo.append((kinds[two[1]], two[2]))
        elif head != "any" and head != "own" and head != two[0]:
            return False
    return True


def has_pairs(kind, worth, todo):
    """Whether a rec has all pairs of a rec's kind, and no others where that has no rest; adds what then has to fit."""
    worths = dict(worth[1])
    for label, part in kind[1]:
        if label not in worths:
            return False
        todo.append((part, worths[label]))
    return kind[2] is not None or len(worths) == len(kind[1])
