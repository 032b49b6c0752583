"""Faces that come to others, and users that break where one doesn't."""

from sealedkinds.kinds import owns_in
from sealedkinds.names import fresh_name
from sealedkinds.opening import comes_to


def face_comes(new, old):
    """Whether the new face has all owns of the old one, and all its values, with kinds that come to the old ones."""
    return lost_own(new, old) is None and lost_value(new, old) is None


def broken_user(old, new):
    """None where the new face comes to the old one; else a module that has a fault by the new one alone, and faces.

    It's a pair: the module, and the list of the other faces by which it's looked at, which have owns alone.
    """
    own = lost_own(new, old)
    if own is not None:
        # It tells a value of a kind that has the lost one in it.
        sealed = ("own", old[0], own)
        return user_of(old[0], ("fun", sealed, sealed), ("fun", "x", ("name", "x")))
    value = lost_value(new, old)
    if value is None:
        return None
    # It tells the value on, by the kind that the old face tells.
    x, kind = value
    return user_of(old[0], kind, ("from", old[0], x))


def lost_own(new, old):
    """The first of the old face's owns that the new one hasn't; None."""
    for own in old[1]:
        if own not in new[1]:
            return own
    return None


def lost_value(new, old):
    """The first of the old face's values, (x, K), that the new one hasn't with a kind that comes to K; None."""
    kinds = {x: kind for x, kind in new[2]}
    for x, kind in old[2]:
        if x not in kinds or not comes_to(kinds[x], kind):
            return (x, kind)
    return None


def user_of(name, kind, term):
    """A module that uses that name, and tells the term by that kind; with it the faces that it needs for that."""
    owns = {}
    for module, own in owns_in(kind):
        if module != name:
            owns.setdefault(module, []).append(own)
    faces = [(module, tuple(owns[module]), ()) for module in owns]
    uses = sorted([name] + list(owns))
    return (fresh_name(uses), tuple(uses), (), (("x", kind),), (("x", term),)), faces
