"""Looking at the kinds of all places of a term, place by place, without solving.

A paper's rule takes the part at the place, what it stands for or the number of what it binds, the kind of the place,
the list of those of the places straight in it, and a dict of the kinds of what is bound, which then knows more.
It tells whether the rule is kept.
"""

from sealedkinds.looked import WHOLE
from sealedkinds.opening import comes_to
from sealedkinds.terms import term_parts

NUM = ("num",)


def is_kept(spots, kinds):
    """Whether the rules of all spots are kept by these kinds of theirs."""
    bound = {WHOLE: kinds[-1]}
    under_way = []
    for (part, what), here in zip(spots, kinds):
        start = len(under_way) - len(term_parts(part))
        rule = PAPER_RULES[part[0]]
        if not rule(part, what, here, under_way[start:], bound):
            return False
        del under_way[start:]
        under_way.append(here)
    return True


def num_paper(part, what, here, inner, bound):
    """num."""
    return here == NUM


def name_paper(part, what, here, inner, bound):
    """The kind of the bound name or of the whole, or one to which the known kind comes; likewise of a from."""
    if isinstance(what, int):
        return bound.setdefault(what, here) == here
    return comes_to(what.kind, here)


def hole_paper(part, what, here, inner, bound):
    """Any."""
    return True


def fun_paper(part, what, here, inner, bound):
    """(fun K L), K that of the bound name, L that of its term."""
    return here[0] == "fun" and here[2] == inner[0] and bound.setdefault(what, here[1]) == here[1]


def call_paper(part, what, here, inner, bound):
    """The first part has (fun K L), the other one K, itself L."""
    return inner[0] == ("fun", inner[1], here)


def reckon_paper(part, what, here, inner, bound):
    """All num."""
    return here == NUM and inner[0] == NUM and inner[1] == NUM


def under_paper(part, what, here, inner, bound):
    """Two nums, and two as itself."""
    return inner[0] == NUM and inner[1] == NUM and inner[2] == here and inner[3] == here


def rec_paper(part, what, here, inner, bound):
    """The rec of its pairs' kinds, rest None."""
    labels = [pair[0] for pair in part[1]]
    return here == ("rec", tuple(zip(labels, inner)), None)


def get_paper(part, what, here, inner, bound):
    """The part a rec that has the label, itself that kind."""
    return inner[0][0] == "rec" and (part[2], here) in inner[0][1]


def put_paper(part, what, here, inner, bound):
    """The first part a rec that has the label, itself the same but the other one's kind there."""
    whole, new = inner
    label = part[2]
    if whole[0] != "rec" or label not in dict(whole[1]):
        return False
    pairs = [(name, new if name == label else kind) for name, kind in whole[1]]
    return here == ("rec", tuple(pairs), whole[2])


def tag_paper(part, what, here, inner, bound):
    """A sum that has the label, with the part's kind."""
    return here[0] == "sum" and (part[1], inner[0]) in here[1]


def case_paper(part, what, here, inner, bound):
    """The first part the sum of just these labels, each name the kind of its label, each way's term as itself."""
    whole = inner[0]
    if whole[0] != "sum" or whole[2] is not None or [pair[0] for pair in whole[1]] != [way[0] for way in part[2]]:
        return False
    for number, pair in enumerate(whole[1], start=what):
        if bound.setdefault(number, pair[1]) != pair[1]:
            return False
    return all([end == here for end in inner[1:]])


PAPER_RULES = {
    "num": num_paper, "name": name_paper, "from": name_paper, "hole": hole_paper, "fun": fun_paper, "call": call_paper,
    "add": reckon_paper, "less": reckon_paper, "times": reckon_paper, "under": under_paper, "rec": rec_paper,
    "get": get_paper, "put": put_paper, "tag": tag_paper, "case": case_paper,
}
