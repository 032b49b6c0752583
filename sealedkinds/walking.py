"""Ways through trees of tuples, without calls within calls: a text may ask for a tree of any depth."""


def all_in(tree, parts_of):
    """The tree and all trees in it, a whole ahead of its parts, parts from left to right."""
    found = []
    todo = [tree]
    while todo:
        part = todo.pop()
        found.append(part)
        todo.extend(parts_of(part)[::-1])
    return found


def folded(tree, parts_of, make):
    """What make(part, what is made of its parts) makes of the tree, parts ahead of their wholes, from left to right."""
    found = []
    todo = [tree]
    while todo:
        part = todo.pop()
        parts = parts_of(part)
        found.append((part, len(parts)))
        todo.extend(parts)
    made = []
    for part, many in found[::-1]:
        start = len(made) - many
        inner = made[start:]
        del made[start:]
        made.append(make(part, inner))
    return made[0]


def is_within(tree, parts_of, wide, deep):
    """Whether there are at most so many trees in it, itself counted, and it's at most so deep."""
    many = 0
    todo = [(tree, 1)]
    while todo:
        part, level = todo.pop()
        many += 1
        if many > wide or level > deep:
            return False
        for inner in parts_of(part):
            todo.append((inner, level + 1))
    return True


def alike(one, other):
    """Whether two trees of tuples are equal."""
    todo = [(one, other)]
    while todo:
        left, right = todo.pop()
        if not isinstance(left, tuple) or not isinstance(right, tuple):
            if left != right:
                return False
        elif len(left) != len(right):
            return False
        else:
            todo.extend(list(zip(left, right)))
    return True
