"""Kinds that are known of names, measured when that is first asked for."""


class Known:
    """A kind that is known of a name.

    One without numbers is the same wherever the name stands: so it needn't be taken apart as long as nothing asks it.
    """

    def __init__(self, kind):
        self.kind = kind
        self.is_measured = False
        self.measures = None

    def size_and_deep(self):
        """How many things it has and how deep it is, of a kind without numbers; None of one with numbers."""
        if not self.is_measured:
            self.measures = measured(self.kind)
            self.is_measured = True
        return self.measures


def measured(kind):
    """How many things the kind has and how deep it is; None where a number stands in it."""
    size = 0
    deep = 0
    level = [kind]
    while level:
        size += len(level)
        deep += 1
        below = []
        for part in level:
            head = part[0]
            if head == "fun":
                below.append(part[1])
                below.append(part[2])
            elif head == "rec" or head == "sum":
                if part[2] is not None:
                    return None
                below.extend([pair[1] for pair in part[1]])
            elif head == "any":
                return None
        level = below
    return size, deep


def known_of(kinds):
    """The same dict, with what is known for the kinds."""
    return {what: Known(kinds[what]) for what in kinds}
